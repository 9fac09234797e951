/-
  The region of the law's same (written by wip/mkwsame.py out of the print of its function).
-/
import Derived.Test.YtenhncohhikllaaDoorWref3
import Derived.Test.YtenhncohhikllaaDoorZord
namespace Go.Proofs.YtenhncohhikllaaDoor
open Go.ChangeShapes Go.WideShapes Go.ChangeAt Go.RowKit

/-- what the callees answer, in each world that kept the first one -/
structure SameC (w0 : World) (b d rb rd : Nat) (x : Wg.St) (ar : Option Addr) (cr sure : Nat) (P F0 F1 KF : ByteArray) (T : Nat) : Prop where
  ks : ∀ w', Kept w0 w' → w'.cell? ⟨rb, 0, none⟩ = some (.pointer (some ⟨rd, 0, none⟩)) ∧ w'.cell? ⟨rb, 1, none⟩ = some (.int .i64 x.r) ∧ w'.cell? ⟨rb, 2, none⟩ = some (.string P) ∧ w'.cell? ⟨rb, 3, none⟩ = some (.slice ar x.l.length cr) ∧ w'.cell? ⟨rb, 4, none⟩ = some (.int .i64 sure)
  row : ∀ w', Kept w0 w' → Strs w' (.slice ar x.l.length cr) x.l
  rec_ : ∀ w', Kept w0 w' → Calls Tryd.prog 32 #[.pointer (some ⟨b, 0, none⟩)] w' fun e w'' => ∃ v, e = .returned v ∧ Tx w'' w'.heap.size v x.l ∧ Kept w' w''
  cState : ∀ w', Kept w0 w' → Calls Tryd.prog 31 #[.pointer (some ⟨b, 0, none⟩)] w' fun e w'' => e = .returned (.string P) ∧ Kept w' w''
  cSure : ∀ w', Kept w0 w' → Calls Tryd.prog 34 #[.pointer (some ⟨b, 0, none⟩)] w' fun e w'' => e = .returned (.int .i64 sure) ∧ Kept w' w''
  cRound : ∀ w', Kept w0 w' → Calls Tryd.prog 35 #[.pointer (some ⟨b, 0, none⟩)] w' fun e w'' => e = .returned (.int .i64 x.r) ∧ Kept w' w''
  cR0 : ∀ w', Kept w0 w' → Calls Tryd.prog 27 #[.pointer (some ⟨d, 0, none⟩), .int .i64 0] w' fun e w'' => e = .returned (.string F0) ∧ Kept w' w''
  cS0 : ∀ w', Kept w0 w' → Calls Tryd.prog 28 #[.pointer (some ⟨rd, 0, none⟩), .int .i64 0] w' fun e w'' => e = .returned (.string F0) ∧ Kept w' w''
  cR1 : ∀ w', Kept w0 w' → Calls Tryd.prog 27 #[.pointer (some ⟨d, 0, none⟩), .int .i64 1] w' fun e w'' => e = .returned (.string F1) ∧ Kept w' w''
  cS1 : ∀ w', Kept w0 w' → Calls Tryd.prog 28 #[.pointer (some ⟨rd, 0, none⟩), .int .i64 1] w' fun e w'' => e = .returned (.string F1) ∧ Kept w' w''
  cU : ∀ w', Kept w0 w' → Calls Tryd.prog 29 #[.pointer (some ⟨d, 0, none⟩)] w' fun e w'' => e = .returned (.int .i64 T) ∧ Kept w' w''
  cV : ∀ w', Kept w0 w' → Calls Tryd.prog 30 #[.pointer (some ⟨rd, 0, none⟩)] w' fun e w'' => e = .returned (.int .i64 T) ∧ Kept w' w''
  cK : ∀ w', Kept w0 w' → Calls Tryd.prog 43 #[.pointer (some ⟨d, 0, none⟩), .int .i64 1] w' fun e w'' => e = .returned (.string KF) ∧ Kept w' w''
  cL : ∀ w', Kept w0 w' → Calls Tryd.prog 44 #[.pointer (some ⟨rd, 0, none⟩), .int .i64 1] w' fun e w'' => e = .returned (.string KF) ∧ Kept w' w''
section
variable {a : Act} {dst : Option Tmp} {ty : TypeId} {pos : String} {after : Array Edge} {guard : Option (Nat × Bool)}
theorem k_move {n : Nat} {v : Value} (h : At a n v) (w : World) : (execOp a.eval ⟨dst, .move (.tmp n), ty, pos, after, guard⟩).run Tryd.prog w = .ok (.value v) w := by
  have e0 := h.eval
  generalize a.eval = ρ at *
  simp [go_sem, e0]
theorem k_asg {n : Nat} {v : Value} (h : At a n v) (w : World) : (execOp a.eval ⟨dst, .assign (.tmp n), ty, pos, after, guard⟩).run Tryd.prog w = .ok (.value v) w := by
  have e0 := h.eval
  generalize a.eval = ρ at *
  simp [go_sem, e0]
theorem k_nil {n : Nat} {p : Addr} (h : At a n (.pointer (some p))) (w : World) : (execOp a.eval ⟨dst, .nilCheck (.tmp n), ty, pos, after, guard⟩).run Tryd.prog w = .ok (.value (.pointer (some p))) w := by
  have e0 := h.eval
  generalize a.eval = ρ at *
  simp [go_sem, e0]
theorem k_fa0 {n rb : Nat} (h : At a n (.pointer (some ⟨rb, 0, none⟩))) (w : World) : (execOp a.eval ⟨dst, .fieldAddr 73 (.tmp n) 0, ty, pos, after, guard⟩).run Tryd.prog w = .ok (.value (.pointer (some ⟨rb, 0, none⟩))) w := by
  have e0 := h.eval
  generalize a.eval = ρ at *
  simp [go_sem, e0]
theorem k_fa1 {n rb : Nat} (h : At a n (.pointer (some ⟨rb, 0, none⟩))) (w : World) : (execOp a.eval ⟨dst, .fieldAddr 73 (.tmp n) 1, ty, pos, after, guard⟩).run Tryd.prog w = .ok (.value (.pointer (some ⟨rb, 1, none⟩))) w := by
  have e0 := h.eval
  generalize a.eval = ρ at *
  simp [go_sem, e0]
theorem k_fa2 {n rb : Nat} (h : At a n (.pointer (some ⟨rb, 0, none⟩))) (w : World) : (execOp a.eval ⟨dst, .fieldAddr 73 (.tmp n) 2, ty, pos, after, guard⟩).run Tryd.prog w = .ok (.value (.pointer (some ⟨rb, 2, none⟩))) w := by
  have e0 := h.eval
  generalize a.eval = ρ at *
  simp [go_sem, e0]
theorem k_fa3 {n rb : Nat} (h : At a n (.pointer (some ⟨rb, 0, none⟩))) (w : World) : (execOp a.eval ⟨dst, .fieldAddr 73 (.tmp n) 3, ty, pos, after, guard⟩).run Tryd.prog w = .ok (.value (.pointer (some ⟨rb, 3, none⟩))) w := by
  have e0 := h.eval
  generalize a.eval = ρ at *
  simp [go_sem, e0]
theorem k_fa4 {n rb : Nat} (h : At a n (.pointer (some ⟨rb, 0, none⟩))) (w : World) : (execOp a.eval ⟨dst, .fieldAddr 73 (.tmp n) 4, ty, pos, after, guard⟩).run Tryd.prog w = .ok (.value (.pointer (some ⟨rb, 4, none⟩))) w := by
  have e0 := h.eval
  generalize a.eval = ρ at *
  simp [go_sem, e0]
theorem k_ld0 {n rb : Nat} {r : Nat} (h : At a n (.pointer (some ⟨rb, 0, none⟩))) (w : World) (c : w.cell? ⟨rb, 0, none⟩ = some (.pointer (some ⟨r, 0, none⟩))) : (execOp a.eval ⟨dst, .load 26 (.tmp n), ty, pos, after, guard⟩).run Tryd.prog w = .ok (.value (.pointer (some ⟨r, 0, none⟩))) w := by
  have e0 := h.eval
  generalize a.eval = ρ at *
  simp [go_sem, e0, c]
theorem k_ld1 {n rb : Nat} {r : Int} (h : At a n (.pointer (some ⟨rb, 1, none⟩))) (w : World) (c : w.cell? ⟨rb, 1, none⟩ = some (.int .i64 r)) : (execOp a.eval ⟨dst, .load 3 (.tmp n), ty, pos, after, guard⟩).run Tryd.prog w = .ok (.value (.int .i64 r)) w := by
  have e0 := h.eval
  generalize a.eval = ρ at *
  simp [go_sem, e0, c]
theorem k_ld2 {n rb : Nat} {r : ByteArray} (h : At a n (.pointer (some ⟨rb, 2, none⟩))) (w : World) (c : w.cell? ⟨rb, 2, none⟩ = some (.string r)) : (execOp a.eval ⟨dst, .load 9 (.tmp n), ty, pos, after, guard⟩).run Tryd.prog w = .ok (.value (.string r)) w := by
  have e0 := h.eval
  generalize a.eval = ρ at *
  simp [go_sem, e0, c]
theorem k_ld3 {n rb : Nat} {r : Option Addr} {l k : Nat} (h : At a n (.pointer (some ⟨rb, 3, none⟩))) (w : World) (c : w.cell? ⟨rb, 3, none⟩ = some (.slice r l k)) : (execOp a.eval ⟨dst, .load 49 (.tmp n), ty, pos, after, guard⟩).run Tryd.prog w = .ok (.value (.slice r l k)) w := by
  have e0 := h.eval
  generalize a.eval = ρ at *
  simp [go_sem, e0, c]
theorem k_ld4 {n rb : Nat} {r : Int} (h : At a n (.pointer (some ⟨rb, 4, none⟩))) (w : World) (c : w.cell? ⟨rb, 4, none⟩ = some (.int .i64 r)) : (execOp a.eval ⟨dst, .load 3 (.tmp n), ty, pos, after, guard⟩).run Tryd.prog w = .ok (.value (.int .i64 r)) w := by
  have e0 := h.eval
  generalize a.eval = ρ at *
  simp [go_sem, e0, c]
theorem k_eqs {n m : Nat} {s : ByteArray} (h : At a n (.string s)) (h' : At a m (.string s)) (w : World) : (execOp a.eval ⟨dst, .binOp .eql 9 (.tmp n) (.tmp m) 9, ty, pos, after, guard⟩).run Tryd.prog w = .ok (.value (.bool true)) w := by
  have e0 := h.eval
  have e1 := h'.eval
  generalize a.eval = ρ at *
  simp [go_sem, e0, e1]
theorem k_eqi {n m : Nat} {s : Int} (h : At a n (.int .i64 s)) (h' : At a m (.int .i64 s)) (w : World) : (execOp a.eval ⟨dst, .binOp .eql 3 (.tmp n) (.tmp m) 3, ty, pos, after, guard⟩).run Tryd.prog w = .ok (.value (.bool true)) w := by
  have e0 := h.eval
  have e1 := h'.eval
  generalize a.eval = ρ at *
  simp [go_sem, e0, e1]
theorem k_pick {n m : Nat} {v u : Value} (h : At a n (.bool true)) (h' : At a m v) (w : World) : (execOp a.eval ⟨dst, .pick (.tmp n) (.tmp m) (.const u), ty, pos, after, guard⟩).run Tryd.prog w = .ok (.value v) w := by
  have e0 := h.eval
  have e1 := h'.eval
  generalize a.eval = ρ at *
  simp [go_sem, e0, e1]
theorem k_c1c_27 {n : Nat} {v u : Value} {ts : Array TypeId} (h : At a n v) (w : World) : (execOp a.eval ⟨dst, .call { callee := .value (.func 27), args := #[.tmp n, .const u], argTypes := ts }, ty, pos, after, guard⟩).run Tryd.prog w = .ok (.enter 27 #[v, u]) w := by
  have e0 := h.eval
  have e3 : a.eval (.func 27) = .func (.func 27) #[] #[] := rfl
  have e4 : a.eval (.const u) = u := rfl
  generalize a.eval = ρ at *
  simp [go_sem, e0, e3, e4]
theorem k_c1c_28 {n : Nat} {v u : Value} {ts : Array TypeId} (h : At a n v) (w : World) : (execOp a.eval ⟨dst, .call { callee := .value (.func 28), args := #[.tmp n, .const u], argTypes := ts }, ty, pos, after, guard⟩).run Tryd.prog w = .ok (.enter 28 #[v, u]) w := by
  have e0 := h.eval
  have e3 : a.eval (.func 28) = .func (.func 28) #[] #[] := rfl
  have e4 : a.eval (.const u) = u := rfl
  generalize a.eval = ρ at *
  simp [go_sem, e0, e3, e4]
theorem k_c1_29 {n : Nat} {v : Value} {ts : Array TypeId} (h : At a n v) (w : World) : (execOp a.eval ⟨dst, .call { callee := .value (.func 29), args := #[.tmp n], argTypes := ts }, ty, pos, after, guard⟩).run Tryd.prog w = .ok (.enter 29 #[v]) w := by
  have e0 := h.eval
  have e3 : a.eval (.func 29) = .func (.func 29) #[] #[] := rfl
  generalize a.eval = ρ at *
  simp [go_sem, e0, e3]
theorem k_c1_30 {n : Nat} {v : Value} {ts : Array TypeId} (h : At a n v) (w : World) : (execOp a.eval ⟨dst, .call { callee := .value (.func 30), args := #[.tmp n], argTypes := ts }, ty, pos, after, guard⟩).run Tryd.prog w = .ok (.enter 30 #[v]) w := by
  have e0 := h.eval
  have e3 : a.eval (.func 30) = .func (.func 30) #[] #[] := rfl
  generalize a.eval = ρ at *
  simp [go_sem, e0, e3]
theorem k_c1_31 {n : Nat} {v : Value} {ts : Array TypeId} (h : At a n v) (w : World) : (execOp a.eval ⟨dst, .call { callee := .value (.func 31), args := #[.tmp n], argTypes := ts }, ty, pos, after, guard⟩).run Tryd.prog w = .ok (.enter 31 #[v]) w := by
  have e0 := h.eval
  have e3 : a.eval (.func 31) = .func (.func 31) #[] #[] := rfl
  generalize a.eval = ρ at *
  simp [go_sem, e0, e3]
theorem k_c1_32 {n : Nat} {v : Value} {ts : Array TypeId} (h : At a n v) (w : World) : (execOp a.eval ⟨dst, .call { callee := .value (.func 32), args := #[.tmp n], argTypes := ts }, ty, pos, after, guard⟩).run Tryd.prog w = .ok (.enter 32 #[v]) w := by
  have e0 := h.eval
  have e3 : a.eval (.func 32) = .func (.func 32) #[] #[] := rfl
  generalize a.eval = ρ at *
  simp [go_sem, e0, e3]
theorem k_c2_33 {n m : Nat} {v u : Value} {ts : Array TypeId} (h : At a n v) (h' : At a m u) (w : World) : (execOp a.eval ⟨dst, .call { callee := .value (.func 33), args := #[.tmp n, .tmp m], argTypes := ts }, ty, pos, after, guard⟩).run Tryd.prog w = .ok (.enter 33 #[v, u]) w := by
  have e0 := h.eval
  have e1 := h'.eval
  have e3 : a.eval (.func 33) = .func (.func 33) #[] #[] := rfl
  generalize a.eval = ρ at *
  simp [go_sem, e0, e1, e3]
theorem k_c1_34 {n : Nat} {v : Value} {ts : Array TypeId} (h : At a n v) (w : World) : (execOp a.eval ⟨dst, .call { callee := .value (.func 34), args := #[.tmp n], argTypes := ts }, ty, pos, after, guard⟩).run Tryd.prog w = .ok (.enter 34 #[v]) w := by
  have e0 := h.eval
  have e3 : a.eval (.func 34) = .func (.func 34) #[] #[] := rfl
  generalize a.eval = ρ at *
  simp [go_sem, e0, e3]
theorem k_c1_35 {n : Nat} {v : Value} {ts : Array TypeId} (h : At a n v) (w : World) : (execOp a.eval ⟨dst, .call { callee := .value (.func 35), args := #[.tmp n], argTypes := ts }, ty, pos, after, guard⟩).run Tryd.prog w = .ok (.enter 35 #[v]) w := by
  have e0 := h.eval
  have e3 : a.eval (.func 35) = .func (.func 35) #[] #[] := rfl
  generalize a.eval = ρ at *
  simp [go_sem, e0, e3]
theorem k_c1c_43 {n : Nat} {v u : Value} {ts : Array TypeId} (h : At a n v) (w : World) : (execOp a.eval ⟨dst, .call { callee := .value (.func 43), args := #[.tmp n, .const u], argTypes := ts }, ty, pos, after, guard⟩).run Tryd.prog w = .ok (.enter 43 #[v, u]) w := by
  have e0 := h.eval
  have e3 : a.eval (.func 43) = .func (.func 43) #[] #[] := rfl
  have e4 : a.eval (.const u) = u := rfl
  generalize a.eval = ρ at *
  simp [go_sem, e0, e3, e4]
theorem k_c1c_44 {n : Nat} {v u : Value} {ts : Array TypeId} (h : At a n v) (w : World) : (execOp a.eval ⟨dst, .call { callee := .value (.func 44), args := #[.tmp n, .const u], argTypes := ts }, ty, pos, after, guard⟩).run Tryd.prog w = .ok (.enter 44 #[v, u]) w := by
  have e0 := h.eval
  have e3 : a.eval (.func 44) = .func (.func 44) #[] #[] := rfl
  have e4 : a.eval (.const u) = u := rfl
  generalize a.eval = ρ at *
  simp [go_sem, e0, e3, e4]
end
/-- the region's operations -/
def litS : Array Oper := #[⟨some 7, Op.move (Operand.tmp 0), 31, "law.go:68", #[], none⟩,
  ⟨some 8, Op.call { callee := Callee.value (Operand.func 31), args := #[Operand.tmp 7], argTypes := #[31] }, 9, "law.go:68", #[⟨0, Ground.data⟩], none⟩,
  ⟨some 9, Op.move (Operand.tmp 1), 35, "law.go:68", #[], none⟩,
  ⟨some 10, Op.nilCheck (Operand.tmp 9), 0, "law.go:68", #[⟨2, Ground.data⟩], none⟩,
  ⟨some 11, Op.fieldAddr 73 (Operand.tmp 10) 2, 0, "law.go:68", #[⟨3, Ground.data⟩], none⟩,
  ⟨some 12, Op.load 9 (Operand.tmp 11), 9, "law.go:68", #[⟨4, Ground.data⟩], none⟩,
  ⟨some 13, Op.binOp BinOp.eql 9 (Operand.tmp 8) (Operand.tmp 12) 9, 4, "law.go:68", #[⟨1, Ground.data⟩, ⟨5, Ground.data⟩], none⟩,
  ⟨some 14, Op.move (Operand.tmp 13), 4, "law.go:68", #[⟨6, Ground.data⟩, ⟨1, Ground.chain⟩], none⟩,
  ⟨some 15, Op.move (Operand.tmp 0), 31, "law.go:68", #[⟨7, Ground.guard⟩], some (7, true)⟩,
  ⟨some 16, Op.call { callee := Callee.value (Operand.func 32), args := #[Operand.tmp 15], argTypes := #[31] }, 49, "law.go:68", #[⟨8, Ground.data⟩, ⟨7, Ground.chain⟩, ⟨7, Ground.guard⟩], some (7, true)⟩,
  ⟨some 17, Op.move (Operand.tmp 1), 35, "law.go:68", #[⟨7, Ground.guard⟩], some (7, true)⟩,
  ⟨some 18, Op.nilCheck (Operand.tmp 17), 0, "law.go:68", #[⟨10, Ground.data⟩, ⟨7, Ground.guard⟩], some (7, true)⟩,
  ⟨some 19, Op.fieldAddr 73 (Operand.tmp 18) 3, 0, "law.go:68", #[⟨11, Ground.data⟩, ⟨7, Ground.guard⟩], some (7, true)⟩,
  ⟨some 20, Op.load 49 (Operand.tmp 19), 49, "law.go:68", #[⟨12, Ground.data⟩, ⟨7, Ground.guard⟩], some (7, true)⟩,
  ⟨some 21, Op.call { callee := Callee.value (Operand.func 33), args := #[Operand.tmp 16, Operand.tmp 20], argTypes := #[49, 49] }, 4, "law.go:68", #[⟨9, Ground.data⟩, ⟨13, Ground.data⟩, ⟨9, Ground.chain⟩, ⟨7, Ground.guard⟩], some (7, true)⟩,
  ⟨some 22, Op.pick (Operand.tmp 14) (Operand.tmp 21) (Operand.const (Value.bool false)), 4, "law.go:68", #[⟨7, Ground.data⟩, ⟨14, Ground.data⟩], none⟩,
  ⟨some 23, Op.move (Operand.tmp 22), 4, "law.go:68", #[⟨15, Ground.data⟩, ⟨14, Ground.chain⟩], none⟩,
  ⟨some 24, Op.move (Operand.tmp 0), 31, "law.go:68", #[⟨16, Ground.guard⟩], some (16, true)⟩,
  ⟨some 25, Op.call { callee := Callee.value (Operand.func 34), args := #[Operand.tmp 24], argTypes := #[31] }, 3, "law.go:68", #[⟨17, Ground.data⟩, ⟨16, Ground.chain⟩, ⟨16, Ground.guard⟩], some (16, true)⟩,
  ⟨some 26, Op.move (Operand.tmp 1), 35, "law.go:68", #[⟨16, Ground.guard⟩], some (16, true)⟩,
  ⟨some 27, Op.nilCheck (Operand.tmp 26), 0, "law.go:68", #[⟨19, Ground.data⟩, ⟨16, Ground.guard⟩], some (16, true)⟩,
  ⟨some 28, Op.fieldAddr 73 (Operand.tmp 27) 4, 0, "law.go:68", #[⟨20, Ground.data⟩, ⟨16, Ground.guard⟩], some (16, true)⟩,
  ⟨some 29, Op.load 3 (Operand.tmp 28), 3, "law.go:68", #[⟨21, Ground.data⟩, ⟨16, Ground.guard⟩], some (16, true)⟩,
  ⟨some 30, Op.binOp BinOp.eql 3 (Operand.tmp 25) (Operand.tmp 29) 3, 4, "law.go:68", #[⟨18, Ground.data⟩, ⟨22, Ground.data⟩, ⟨16, Ground.guard⟩], some (16, true)⟩,
  ⟨some 31, Op.pick (Operand.tmp 23) (Operand.tmp 30) (Operand.const (Value.bool false)), 4, "law.go:68", #[⟨16, Ground.data⟩, ⟨23, Ground.data⟩], none⟩,
  ⟨some 32, Op.move (Operand.tmp 31), 4, "law.go:68", #[⟨24, Ground.data⟩, ⟨18, Ground.chain⟩], none⟩,
  ⟨some 33, Op.move (Operand.tmp 0), 31, "law.go:68", #[⟨25, Ground.guard⟩], some (25, true)⟩,
  ⟨some 34, Op.call { callee := Callee.value (Operand.func 35), args := #[Operand.tmp 33], argTypes := #[31] }, 3, "law.go:68", #[⟨26, Ground.data⟩, ⟨25, Ground.chain⟩, ⟨25, Ground.guard⟩], some (25, true)⟩,
  ⟨some 35, Op.move (Operand.tmp 1), 35, "law.go:68", #[⟨25, Ground.guard⟩], some (25, true)⟩,
  ⟨some 36, Op.nilCheck (Operand.tmp 35), 0, "law.go:68", #[⟨28, Ground.data⟩, ⟨25, Ground.guard⟩], some (25, true)⟩,
  ⟨some 37, Op.fieldAddr 73 (Operand.tmp 36) 1, 0, "law.go:68", #[⟨29, Ground.data⟩, ⟨25, Ground.guard⟩], some (25, true)⟩,
  ⟨some 38, Op.load 3 (Operand.tmp 37), 3, "law.go:68", #[⟨30, Ground.data⟩, ⟨25, Ground.guard⟩], some (25, true)⟩,
  ⟨some 39, Op.binOp BinOp.eql 3 (Operand.tmp 34) (Operand.tmp 38) 3, 4, "law.go:68", #[⟨27, Ground.data⟩, ⟨31, Ground.data⟩, ⟨25, Ground.guard⟩], some (25, true)⟩,
  ⟨some 40, Op.pick (Operand.tmp 32) (Operand.tmp 39) (Operand.const (Value.bool false)), 4, "law.go:68", #[⟨25, Ground.data⟩, ⟨32, Ground.data⟩], none⟩,
  ⟨some 41, Op.move (Operand.tmp 40), 4, "law.go:68", #[⟨33, Ground.data⟩, ⟨27, Ground.chain⟩], none⟩,
  ⟨some 42, Op.move (Operand.tmp 2), 24, "law.go:68", #[⟨34, Ground.guard⟩], some (34, true)⟩,
  ⟨some 43, Op.call { callee := Callee.value (Operand.func 27), args := #[Operand.tmp 42, Operand.const (Value.int IntKind.i64 0)], argTypes := #[24, 3] }, 9, "law.go:68", #[⟨35, Ground.data⟩, ⟨34, Ground.chain⟩, ⟨34, Ground.guard⟩], some (34, true)⟩,
  ⟨some 44, Op.move (Operand.tmp 1), 35, "law.go:68", #[⟨34, Ground.guard⟩], some (34, true)⟩,
  ⟨some 45, Op.nilCheck (Operand.tmp 44), 0, "law.go:68", #[⟨37, Ground.data⟩, ⟨34, Ground.guard⟩], some (34, true)⟩,
  ⟨some 46, Op.fieldAddr 73 (Operand.tmp 45) 0, 0, "law.go:68", #[⟨38, Ground.data⟩, ⟨34, Ground.guard⟩], some (34, true)⟩,
  ⟨some 47, Op.load 26 (Operand.tmp 46), 26, "law.go:68", #[⟨39, Ground.data⟩, ⟨34, Ground.guard⟩], some (34, true)⟩,
  ⟨some 48, Op.call { callee := Callee.value (Operand.func 28), args := #[Operand.tmp 47, Operand.const (Value.int IntKind.i64 0)], argTypes := #[26, 3] }, 9, "law.go:68", #[⟨40, Ground.data⟩, ⟨36, Ground.chain⟩, ⟨34, Ground.guard⟩], some (34, true)⟩,
  ⟨some 49, Op.binOp BinOp.eql 9 (Operand.tmp 43) (Operand.tmp 48) 9, 4, "law.go:68", #[⟨36, Ground.data⟩, ⟨41, Ground.data⟩, ⟨34, Ground.guard⟩], some (34, true)⟩,
  ⟨some 50, Op.pick (Operand.tmp 41) (Operand.tmp 49) (Operand.const (Value.bool false)), 4, "law.go:68", #[⟨34, Ground.data⟩, ⟨42, Ground.data⟩], none⟩,
  ⟨some 51, Op.move (Operand.tmp 50), 4, "law.go:68", #[⟨43, Ground.data⟩, ⟨41, Ground.chain⟩], none⟩,
  ⟨some 52, Op.move (Operand.tmp 2), 24, "law.go:68", #[⟨44, Ground.guard⟩], some (44, true)⟩,
  ⟨some 53, Op.call { callee := Callee.value (Operand.func 27), args := #[Operand.tmp 52, Operand.const (Value.int IntKind.i64 1)], argTypes := #[24, 3] }, 9, "law.go:68", #[⟨45, Ground.data⟩, ⟨44, Ground.chain⟩, ⟨44, Ground.guard⟩], some (44, true)⟩,
  ⟨some 54, Op.move (Operand.tmp 1), 35, "law.go:68", #[⟨44, Ground.guard⟩], some (44, true)⟩,
  ⟨some 55, Op.nilCheck (Operand.tmp 54), 0, "law.go:68", #[⟨47, Ground.data⟩, ⟨44, Ground.guard⟩], some (44, true)⟩,
  ⟨some 56, Op.fieldAddr 73 (Operand.tmp 55) 0, 0, "law.go:68", #[⟨48, Ground.data⟩, ⟨44, Ground.guard⟩], some (44, true)⟩,
  ⟨some 57, Op.load 26 (Operand.tmp 56), 26, "law.go:68", #[⟨49, Ground.data⟩, ⟨44, Ground.guard⟩], some (44, true)⟩,
  ⟨some 58, Op.call { callee := Callee.value (Operand.func 28), args := #[Operand.tmp 57, Operand.const (Value.int IntKind.i64 1)], argTypes := #[26, 3] }, 9, "law.go:68", #[⟨50, Ground.data⟩, ⟨46, Ground.chain⟩, ⟨44, Ground.guard⟩], some (44, true)⟩,
  ⟨some 59, Op.binOp BinOp.eql 9 (Operand.tmp 53) (Operand.tmp 58) 9, 4, "law.go:68", #[⟨46, Ground.data⟩, ⟨51, Ground.data⟩, ⟨44, Ground.guard⟩], some (44, true)⟩,
  ⟨some 60, Op.pick (Operand.tmp 51) (Operand.tmp 59) (Operand.const (Value.bool false)), 4, "law.go:68", #[⟨44, Ground.data⟩, ⟨52, Ground.data⟩], none⟩,
  ⟨some 61, Op.move (Operand.tmp 60), 4, "law.go:68", #[⟨53, Ground.data⟩, ⟨51, Ground.chain⟩], none⟩,
  ⟨some 62, Op.move (Operand.tmp 2), 24, "law.go:68", #[⟨54, Ground.guard⟩], some (54, true)⟩,
  ⟨some 63, Op.call { callee := Callee.value (Operand.func 29), args := #[Operand.tmp 62], argTypes := #[24] }, 3, "law.go:68", #[⟨55, Ground.data⟩, ⟨54, Ground.chain⟩, ⟨54, Ground.guard⟩], some (54, true)⟩,
  ⟨some 64, Op.move (Operand.tmp 1), 35, "law.go:68", #[⟨54, Ground.guard⟩], some (54, true)⟩,
  ⟨some 65, Op.nilCheck (Operand.tmp 64), 0, "law.go:68", #[⟨57, Ground.data⟩, ⟨54, Ground.guard⟩], some (54, true)⟩,
  ⟨some 66, Op.fieldAddr 73 (Operand.tmp 65) 0, 0, "law.go:68", #[⟨58, Ground.data⟩, ⟨54, Ground.guard⟩], some (54, true)⟩,
  ⟨some 67, Op.load 26 (Operand.tmp 66), 26, "law.go:68", #[⟨59, Ground.data⟩, ⟨54, Ground.guard⟩], some (54, true)⟩,
  ⟨some 68, Op.call { callee := Callee.value (Operand.func 30), args := #[Operand.tmp 67], argTypes := #[26] }, 3, "law.go:68", #[⟨60, Ground.data⟩, ⟨56, Ground.chain⟩, ⟨54, Ground.guard⟩], some (54, true)⟩,
  ⟨some 69, Op.binOp BinOp.eql 3 (Operand.tmp 63) (Operand.tmp 68) 3, 4, "law.go:68", #[⟨56, Ground.data⟩, ⟨61, Ground.data⟩, ⟨54, Ground.guard⟩], some (54, true)⟩,
  ⟨some 70, Op.pick (Operand.tmp 61) (Operand.tmp 69) (Operand.const (Value.bool false)), 4, "law.go:68", #[⟨54, Ground.data⟩, ⟨62, Ground.data⟩], none⟩,
  ⟨some 71, Op.move (Operand.tmp 70), 4, "law.go:68", #[⟨63, Ground.data⟩, ⟨61, Ground.chain⟩], none⟩,
  ⟨some 72, Op.move (Operand.tmp 2), 24, "law.go:68", #[⟨64, Ground.guard⟩], some (64, true)⟩,
  ⟨some 73, Op.call { callee := Callee.value (Operand.func 43), args := #[Operand.tmp 72, Operand.const (Value.int IntKind.i64 1)], argTypes := #[24, 3] }, 9, "law.go:68", #[⟨65, Ground.data⟩, ⟨64, Ground.chain⟩, ⟨64, Ground.guard⟩], some (64, true)⟩,
  ⟨some 74, Op.move (Operand.tmp 1), 35, "law.go:68", #[⟨64, Ground.guard⟩], some (64, true)⟩,
  ⟨some 75, Op.nilCheck (Operand.tmp 74), 0, "law.go:68", #[⟨67, Ground.data⟩, ⟨64, Ground.guard⟩], some (64, true)⟩,
  ⟨some 76, Op.fieldAddr 73 (Operand.tmp 75) 0, 0, "law.go:68", #[⟨68, Ground.data⟩, ⟨64, Ground.guard⟩], some (64, true)⟩,
  ⟨some 77, Op.load 26 (Operand.tmp 76), 26, "law.go:68", #[⟨69, Ground.data⟩, ⟨64, Ground.guard⟩], some (64, true)⟩,
  ⟨some 78, Op.call { callee := Callee.value (Operand.func 44), args := #[Operand.tmp 77, Operand.const (Value.int IntKind.i64 1)], argTypes := #[26, 3] }, 9, "law.go:68", #[⟨70, Ground.data⟩, ⟨66, Ground.chain⟩, ⟨64, Ground.guard⟩], some (64, true)⟩,
  ⟨some 79, Op.binOp BinOp.eql 9 (Operand.tmp 73) (Operand.tmp 78) 9, 4, "law.go:68", #[⟨66, Ground.data⟩, ⟨71, Ground.data⟩, ⟨64, Ground.guard⟩], some (64, true)⟩,
  ⟨some 80, Op.pick (Operand.tmp 71) (Operand.tmp 79) (Operand.const (Value.bool false)), 4, "law.go:68", #[⟨64, Ground.data⟩, ⟨72, Ground.data⟩], none⟩,
  ⟨some 6, Op.assign (Operand.tmp 80), 4, "law.go:68", #[⟨73, Ground.data⟩, ⟨71, Ground.chain⟩, ⟨0, Ground.phase⟩, ⟨1, Ground.phase⟩, ⟨2, Ground.phase⟩, ⟨3, Ground.phase⟩, ⟨4, Ground.phase⟩, ⟨5, Ground.phase⟩, ⟨6, Ground.phase⟩, ⟨7, Ground.phase⟩, ⟨8, Ground.phase⟩, ⟨9, Ground.phase⟩, ⟨10, Ground.phase⟩, ⟨11, Ground.phase⟩, ⟨12, Ground.phase⟩, ⟨13, Ground.phase⟩, ⟨14, Ground.phase⟩, ⟨15, Ground.phase⟩, ⟨16, Ground.phase⟩, ⟨17, Ground.phase⟩, ⟨18, Ground.phase⟩, ⟨19, Ground.phase⟩, ⟨20, Ground.phase⟩, ⟨21, Ground.phase⟩, ⟨22, Ground.phase⟩, ⟨23, Ground.phase⟩, ⟨24, Ground.phase⟩, ⟨25, Ground.phase⟩, ⟨26, Ground.phase⟩, ⟨27, Ground.phase⟩, ⟨28, Ground.phase⟩, ⟨29, Ground.phase⟩, ⟨30, Ground.phase⟩, ⟨31, Ground.phase⟩, ⟨32, Ground.phase⟩, ⟨33, Ground.phase⟩, ⟨34, Ground.phase⟩, ⟨35, Ground.phase⟩, ⟨36, Ground.phase⟩, ⟨37, Ground.phase⟩, ⟨38, Ground.phase⟩, ⟨39, Ground.phase⟩, ⟨40, Ground.phase⟩, ⟨41, Ground.phase⟩, ⟨42, Ground.phase⟩, ⟨43, Ground.phase⟩, ⟨44, Ground.phase⟩, ⟨45, Ground.phase⟩, ⟨46, Ground.phase⟩, ⟨47, Ground.phase⟩, ⟨48, Ground.phase⟩, ⟨49, Ground.phase⟩, ⟨50, Ground.phase⟩, ⟨51, Ground.phase⟩, ⟨52, Ground.phase⟩, ⟨53, Ground.phase⟩, ⟨54, Ground.phase⟩, ⟨55, Ground.phase⟩, ⟨56, Ground.phase⟩, ⟨57, Ground.phase⟩, ⟨58, Ground.phase⟩, ⟨59, Ground.phase⟩, ⟨60, Ground.phase⟩, ⟨61, Ground.phase⟩, ⟨62, Ground.phase⟩, ⟨63, Ground.phase⟩, ⟨64, Ground.phase⟩, ⟨65, Ground.phase⟩, ⟨66, Ground.phase⟩, ⟨67, Ground.phase⟩, ⟨68, Ground.phase⟩, ⟨69, Ground.phase⟩, ⟨70, Ground.phase⟩, ⟨71, Ground.phase⟩, ⟨72, Ground.phase⟩, ⟨73, Ground.phase⟩], none⟩]
set_option maxHeartbeats 4000000 in
theorem regS2 {Q : Exit → Act → World → Prop} {ops : Array Oper} {a : Act} {w w0 : World} {b d rb rd cr sure T : Nat} {x : Wg.St} {ar : Option Addr} {P F0 F1 KF : ByteArray} (hO : ops = litS) (hns : Region.noSelect ops = true) (hQ : ∀ c a w (d : Nat) v, Q (.panic c) (a.put (some d) v) w → Q (.panic c) a w) (C : SameC w0 b d rb rd x ar cr sure P F0 F1 KF T) (F : ∀ a' w', At a' 6 (.bool true) → a'.defers = [] → Kept w0 w' → Q .normal a' w')
    (z51 : a.tmps.size = 81) (df51 : a.defers = []) (q1_51 : At a 1 (.pointer (some ⟨rb, 0, none⟩))) (q2_51 : At a 2 (.pointer (some ⟨d, 0, none⟩))) (q51_51 : At a 51 (.bool true)) (q57_51 : At a 57 (.pointer (some ⟨rd, 0, none⟩))) (q53_51 : At a 53 (.string F1)) (sR1 : Kept w0 w) :
    wpAnyH Tryd.prog .any ops Q (Kept w0) 24 #[true, true, true, true, true, true, true, true, true, true, true, true, true, true, true, true, true, true, true, true, true, true, true, true, true, true, true, true, true, true, true, true, true, true, true, true, true, true, true, true, true, true, true, true, true, true, true, true, true, true, true, false, false, false, false, false, false, false, false, false, false, false, false, false, false, false, false, false, false, false, false, false, false, false, false] a w := by
  refine stepC 51 (o := ⟨some 58, Op.call { callee := Callee.value (Operand.func 28), args := #[Operand.tmp 57, Operand.const (Value.int IntKind.i64 1)], argTypes := #[26, 3] }, 9, "law.go:68", #[⟨50, Ground.data⟩, ⟨46, Ground.chain⟩, ⟨44, Ground.guard⟩], some (44, true)⟩) (d := 58) (f := 28) (args := #[.pointer (some ⟨rd, 0, none⟩), .int .i64 1]) (listed' := #[true, true, true, true, true, true, true, true, true, true, true, true, true, true, true, true, true, true, true, true, true, true, true, true, true, true, true, true, true, true, true, true, true, true, true, true, true, true, true, true, true, true, true, true, true, true, true, true, true, true, true, true, false, false, false, false, false, false, false, false, false, false, false, false, false, false, false, false, false, false, false, false, false, false, false]) (by rw [hO]; rfl) rfl (by rw [hO]; kernel_rfl) (by kernel_rfl) ⟨51, by rw [hO]; rfl, q51_51⟩ (k_c1c_28 q57_51 _) ?_
  refine (C.cS1 _ sR1).mono ?_
  rintro e wS1 ⟨rfl, q⟩
  have sS1 := sR1.trans q
  refine ⟨_, rfl, sS1, ?_⟩
  intro b52 e52
  have q1_52 := q1_51.mv e52 rfl
  have q2_52 := q2_51.mv e52 rfl
  have q51_52 := q51_51.mv e52 rfl
  have q53_52 := q53_51.mv e52 rfl
  have q58_52 : At b52 58 (.string F1) := e52 ▸ At.eq (by rw [z51]; decide)
  have z52 : b52.tmps.size = 81 := (e52 ▸ size_put _ _ _).trans z51
  have df52 : b52.defers = [] := by rw [e52]; exact df51
  clear q1_51 q2_51 q51_51 q57_51 q53_51 e52 z51 df51
  refine stepV 52 (o := ⟨some 59, Op.binOp BinOp.eql 9 (Operand.tmp 53) (Operand.tmp 58) 9, 4, "law.go:68", #[⟨46, Ground.data⟩, ⟨51, Ground.data⟩, ⟨44, Ground.guard⟩], some (44, true)⟩) (v := .bool true) (d := 59) (listed' := #[true, true, true, true, true, true, true, true, true, true, true, true, true, true, true, true, true, true, true, true, true, true, true, true, true, true, true, true, true, true, true, true, true, true, true, true, true, true, true, true, true, true, true, true, true, true, true, true, true, true, true, true, true, false, false, false, false, false, false, false, false, false, false, false, false, false, false, false, false, false, false, false, false, false, false]) (by rw [hO]; rfl) rfl hns (by rw [hO]; kernel_rfl) (by rw [hO]; kernel_rfl) (by kernel_rfl) hQ ⟨51, by rw [hO]; rfl, q51_52⟩ sS1 (fun w _ => k_eqs q53_52 q58_52 w) ?_
  intro b53 e53
  have q1_53 := q1_52.mv e53 rfl
  have q2_53 := q2_52.mv e53 rfl
  have q51_53 := q51_52.mv e53 rfl
  have q59_53 : At b53 59 (.bool true) := e53 ▸ At.eq (by rw [z52]; decide)
  have z53 : b53.tmps.size = 81 := (e53 ▸ size_put _ _ _).trans z52
  have df53 : b53.defers = [] := by rw [e53]; exact df52
  clear q1_52 q2_52 q51_52 q53_52 q58_52 e53 z52 df52
  refine stepV 53 (o := ⟨some 60, Op.pick (Operand.tmp 51) (Operand.tmp 59) (Operand.const (Value.bool false)), 4, "law.go:68", #[⟨44, Ground.data⟩, ⟨52, Ground.data⟩], none⟩) (v := .bool true) (d := 60) (listed' := #[true, true, true, true, true, true, true, true, true, true, true, true, true, true, true, true, true, true, true, true, true, true, true, true, true, true, true, true, true, true, true, true, true, true, true, true, true, true, true, true, true, true, true, true, true, true, true, true, true, true, true, true, true, true, false, false, false, false, false, false, false, false, false, false, false, false, false, false, false, false, false, false, false, false, false]) (by rw [hO]; rfl) rfl hns (by rw [hO]; kernel_rfl) (by rw [hO]; kernel_rfl) (by kernel_rfl) hQ trivial sS1 (fun w _ => k_pick q51_53 q59_53 w) ?_
  intro b54 e54
  have q1_54 := q1_53.mv e54 rfl
  have q2_54 := q2_53.mv e54 rfl
  have q60_54 : At b54 60 (.bool true) := e54 ▸ At.eq (by rw [z53]; decide)
  have z54 : b54.tmps.size = 81 := (e54 ▸ size_put _ _ _).trans z53
  have df54 : b54.defers = [] := by rw [e54]; exact df53
  clear q1_53 q2_53 q51_53 q59_53 e54 z53 df53
  refine stepV 54 (o := ⟨some 61, Op.move (Operand.tmp 60), 4, "law.go:68", #[⟨53, Ground.data⟩, ⟨51, Ground.chain⟩], none⟩) (v := .bool true) (d := 61) (listed' := #[true, true, true, true, true, true, true, true, true, true, true, true, true, true, true, true, true, true, true, true, true, true, true, true, true, true, true, true, true, true, true, true, true, true, true, true, true, true, true, true, true, true, true, true, true, true, true, true, true, true, true, true, true, true, true, false, false, false, false, false, false, false, false, false, false, false, false, false, false, false, false, false, false, false, false]) (by rw [hO]; rfl) rfl hns (by rw [hO]; kernel_rfl) (by rw [hO]; kernel_rfl) (by kernel_rfl) hQ trivial sS1 (fun w _ => k_move q60_54 w) ?_
  intro b55 e55
  have q1_55 := q1_54.mv e55 rfl
  have q2_55 := q2_54.mv e55 rfl
  have q61_55 : At b55 61 (.bool true) := e55 ▸ At.eq (by rw [z54]; decide)
  have z55 : b55.tmps.size = 81 := (e55 ▸ size_put _ _ _).trans z54
  have df55 : b55.defers = [] := by rw [e55]; exact df54
  clear q1_54 q2_54 q60_54 e55 z54 df54
  refine stepV 55 (o := ⟨some 62, Op.move (Operand.tmp 2), 24, "law.go:68", #[⟨54, Ground.guard⟩], some (54, true)⟩) (v := .pointer (some ⟨d, 0, none⟩)) (d := 62) (listed' := #[true, true, true, true, true, true, true, true, true, true, true, true, true, true, true, true, true, true, true, true, true, true, true, true, true, true, true, true, true, true, true, true, true, true, true, true, true, true, true, true, true, true, true, true, true, true, true, true, true, true, true, true, true, true, true, true, false, false, false, false, false, false, false, false, false, false, false, false, false, false, false, false, false, false, false]) (by rw [hO]; rfl) rfl hns (by rw [hO]; kernel_rfl) (by rw [hO]; kernel_rfl) (by kernel_rfl) hQ ⟨61, by rw [hO]; rfl, q61_55⟩ sS1 (fun w _ => k_move q2_55 w) ?_
  intro b56 e56
  have q1_56 := q1_55.mv e56 rfl
  have q2_56 := q2_55.mv e56 rfl
  have q61_56 := q61_55.mv e56 rfl
  have q62_56 : At b56 62 (.pointer (some ⟨d, 0, none⟩)) := e56 ▸ At.eq (by rw [z55]; decide)
  have z56 : b56.tmps.size = 81 := (e56 ▸ size_put _ _ _).trans z55
  have df56 : b56.defers = [] := by rw [e56]; exact df55
  clear q1_55 q2_55 q61_55 e56 z55 df55
  refine stepV 57 (o := ⟨some 64, Op.move (Operand.tmp 1), 35, "law.go:68", #[⟨54, Ground.guard⟩], some (54, true)⟩) (v := .pointer (some ⟨rb, 0, none⟩)) (d := 64) (listed' := #[true, true, true, true, true, true, true, true, true, true, true, true, true, true, true, true, true, true, true, true, true, true, true, true, true, true, true, true, true, true, true, true, true, true, true, true, true, true, true, true, true, true, true, true, true, true, true, true, true, true, true, true, true, true, true, true, false, true, false, false, false, false, false, false, false, false, false, false, false, false, false, false, false, false, false]) (by rw [hO]; rfl) rfl hns (by rw [hO]; kernel_rfl) (by rw [hO]; kernel_rfl) (by kernel_rfl) hQ ⟨61, by rw [hO]; rfl, q61_56⟩ sS1 (fun w _ => k_move q1_56 w) ?_
  intro b57 e57
  have q1_57 := q1_56.mv e57 rfl
  have q2_57 := q2_56.mv e57 rfl
  have q61_57 := q61_56.mv e57 rfl
  have q62_57 := q62_56.mv e57 rfl
  have q64_57 : At b57 64 (.pointer (some ⟨rb, 0, none⟩)) := e57 ▸ At.eq (by rw [z56]; decide)
  have z57 : b57.tmps.size = 81 := (e57 ▸ size_put _ _ _).trans z56
  have df57 : b57.defers = [] := by rw [e57]; exact df56
  clear q1_56 q2_56 q61_56 q62_56 e57 z56 df56
  refine stepV 58 (o := ⟨some 65, Op.nilCheck (Operand.tmp 64), 0, "law.go:68", #[⟨57, Ground.data⟩, ⟨54, Ground.guard⟩], some (54, true)⟩) (v := .pointer (some ⟨rb, 0, none⟩)) (d := 65) (listed' := #[true, true, true, true, true, true, true, true, true, true, true, true, true, true, true, true, true, true, true, true, true, true, true, true, true, true, true, true, true, true, true, true, true, true, true, true, true, true, true, true, true, true, true, true, true, true, true, true, true, true, true, true, true, true, true, true, false, true, true, false, false, false, false, false, false, false, false, false, false, false, false, false, false, false, false]) (by rw [hO]; rfl) rfl hns (by rw [hO]; kernel_rfl) (by rw [hO]; kernel_rfl) (by kernel_rfl) hQ ⟨61, by rw [hO]; rfl, q61_57⟩ sS1 (fun w _ => k_nil q64_57 w) ?_
  intro b58 e58
  have q1_58 := q1_57.mv e58 rfl
  have q2_58 := q2_57.mv e58 rfl
  have q61_58 := q61_57.mv e58 rfl
  have q62_58 := q62_57.mv e58 rfl
  have q65_58 : At b58 65 (.pointer (some ⟨rb, 0, none⟩)) := e58 ▸ At.eq (by rw [z57]; decide)
  have z58 : b58.tmps.size = 81 := (e58 ▸ size_put _ _ _).trans z57
  have df58 : b58.defers = [] := by rw [e58]; exact df57
  clear q1_57 q2_57 q61_57 q62_57 q64_57 e58 z57 df57
  refine stepV 59 (o := ⟨some 66, Op.fieldAddr 73 (Operand.tmp 65) 0, 0, "law.go:68", #[⟨58, Ground.data⟩, ⟨54, Ground.guard⟩], some (54, true)⟩) (v := .pointer (some ⟨rb, 0, none⟩)) (d := 66) (listed' := #[true, true, true, true, true, true, true, true, true, true, true, true, true, true, true, true, true, true, true, true, true, true, true, true, true, true, true, true, true, true, true, true, true, true, true, true, true, true, true, true, true, true, true, true, true, true, true, true, true, true, true, true, true, true, true, true, false, true, true, true, false, false, false, false, false, false, false, false, false, false, false, false, false, false, false]) (by rw [hO]; rfl) rfl hns (by rw [hO]; kernel_rfl) (by rw [hO]; kernel_rfl) (by kernel_rfl) hQ ⟨61, by rw [hO]; rfl, q61_58⟩ sS1 (fun w _ => k_fa0 q65_58 w) ?_
  intro b59 e59
  have q1_59 := q1_58.mv e59 rfl
  have q2_59 := q2_58.mv e59 rfl
  have q61_59 := q61_58.mv e59 rfl
  have q62_59 := q62_58.mv e59 rfl
  have q66_59 : At b59 66 (.pointer (some ⟨rb, 0, none⟩)) := e59 ▸ At.eq (by rw [z58]; decide)
  have z59 : b59.tmps.size = 81 := (e59 ▸ size_put _ _ _).trans z58
  have df59 : b59.defers = [] := by rw [e59]; exact df58
  clear q1_58 q2_58 q61_58 q62_58 q65_58 e59 z58 df58
  refine stepV 60 (o := ⟨some 67, Op.load 26 (Operand.tmp 66), 26, "law.go:68", #[⟨59, Ground.data⟩, ⟨54, Ground.guard⟩], some (54, true)⟩) (v := .pointer (some ⟨rd, 0, none⟩)) (d := 67) (listed' := #[true, true, true, true, true, true, true, true, true, true, true, true, true, true, true, true, true, true, true, true, true, true, true, true, true, true, true, true, true, true, true, true, true, true, true, true, true, true, true, true, true, true, true, true, true, true, true, true, true, true, true, true, true, true, true, true, false, true, true, true, true, false, false, false, false, false, false, false, false, false, false, false, false, false, false]) (by rw [hO]; rfl) rfl hns (by rw [hO]; kernel_rfl) (by rw [hO]; kernel_rfl) (by kernel_rfl) hQ ⟨61, by rw [hO]; rfl, q61_59⟩ sS1 (fun w h => k_ld0 q66_59 w ((C.ks _ h).1)) ?_
  intro b60 e60
  have q1_60 := q1_59.mv e60 rfl
  have q2_60 := q2_59.mv e60 rfl
  have q61_60 := q61_59.mv e60 rfl
  have q62_60 := q62_59.mv e60 rfl
  have q67_60 : At b60 67 (.pointer (some ⟨rd, 0, none⟩)) := e60 ▸ At.eq (by rw [z59]; decide)
  have z60 : b60.tmps.size = 81 := (e60 ▸ size_put _ _ _).trans z59
  have df60 : b60.defers = [] := by rw [e60]; exact df59
  clear q1_59 q2_59 q61_59 q62_59 q66_59 e60 z59 df59
  refine stepC 56 (o := ⟨some 63, Op.call { callee := Callee.value (Operand.func 29), args := #[Operand.tmp 62], argTypes := #[24] }, 3, "law.go:68", #[⟨55, Ground.data⟩, ⟨54, Ground.chain⟩, ⟨54, Ground.guard⟩], some (54, true)⟩) (d := 63) (f := 29) (args := #[.pointer (some ⟨d, 0, none⟩)]) (listed' := #[true, true, true, true, true, true, true, true, true, true, true, true, true, true, true, true, true, true, true, true, true, true, true, true, true, true, true, true, true, true, true, true, true, true, true, true, true, true, true, true, true, true, true, true, true, true, true, true, true, true, true, true, true, true, true, true, true, true, true, true, true, false, false, false, false, false, false, false, false, false, false, false, false, false, false]) (by rw [hO]; rfl) rfl (by rw [hO]; kernel_rfl) (by kernel_rfl) ⟨61, by rw [hO]; rfl, q61_60⟩ (k_c1_29 q62_60 _) ?_
  refine (C.cU _ sS1).mono ?_
  rintro e wU ⟨rfl, q⟩
  have sU := sS1.trans q
  refine ⟨_, rfl, sU, ?_⟩
  intro b61 e61
  have q1_61 := q1_60.mv e61 rfl
  have q2_61 := q2_60.mv e61 rfl
  have q61_61 := q61_60.mv e61 rfl
  have q67_61 := q67_60.mv e61 rfl
  have q63_61 : At b61 63 (.int .i64 T) := e61 ▸ At.eq (by rw [z60]; decide)
  have z61 : b61.tmps.size = 81 := (e61 ▸ size_put _ _ _).trans z60
  have df61 : b61.defers = [] := by rw [e61]; exact df60
  clear q1_60 q2_60 q61_60 q62_60 q67_60 e61 z60 df60
  refine stepC 61 (o := ⟨some 68, Op.call { callee := Callee.value (Operand.func 30), args := #[Operand.tmp 67], argTypes := #[26] }, 3, "law.go:68", #[⟨60, Ground.data⟩, ⟨56, Ground.chain⟩, ⟨54, Ground.guard⟩], some (54, true)⟩) (d := 68) (f := 30) (args := #[.pointer (some ⟨rd, 0, none⟩)]) (listed' := #[true, true, true, true, true, true, true, true, true, true, true, true, true, true, true, true, true, true, true, true, true, true, true, true, true, true, true, true, true, true, true, true, true, true, true, true, true, true, true, true, true, true, true, true, true, true, true, true, true, true, true, true, true, true, true, true, true, true, true, true, true, true, false, false, false, false, false, false, false, false, false, false, false, false, false]) (by rw [hO]; rfl) rfl (by rw [hO]; kernel_rfl) (by kernel_rfl) ⟨61, by rw [hO]; rfl, q61_61⟩ (k_c1_30 q67_61 _) ?_
  refine (C.cV _ sU).mono ?_
  rintro e wV ⟨rfl, q⟩
  have sV := sU.trans q
  refine ⟨_, rfl, sV, ?_⟩
  intro b62 e62
  have q1_62 := q1_61.mv e62 rfl
  have q2_62 := q2_61.mv e62 rfl
  have q61_62 := q61_61.mv e62 rfl
  have q63_62 := q63_61.mv e62 rfl
  have q68_62 : At b62 68 (.int .i64 T) := e62 ▸ At.eq (by rw [z61]; decide)
  have z62 : b62.tmps.size = 81 := (e62 ▸ size_put _ _ _).trans z61
  have df62 : b62.defers = [] := by rw [e62]; exact df61
  clear q1_61 q2_61 q61_61 q67_61 q63_61 e62 z61 df61
  refine stepV 62 (o := ⟨some 69, Op.binOp BinOp.eql 3 (Operand.tmp 63) (Operand.tmp 68) 3, 4, "law.go:68", #[⟨56, Ground.data⟩, ⟨61, Ground.data⟩, ⟨54, Ground.guard⟩], some (54, true)⟩) (v := .bool true) (d := 69) (listed' := #[true, true, true, true, true, true, true, true, true, true, true, true, true, true, true, true, true, true, true, true, true, true, true, true, true, true, true, true, true, true, true, true, true, true, true, true, true, true, true, true, true, true, true, true, true, true, true, true, true, true, true, true, true, true, true, true, true, true, true, true, true, true, true, false, false, false, false, false, false, false, false, false, false, false, false]) (by rw [hO]; rfl) rfl hns (by rw [hO]; kernel_rfl) (by rw [hO]; kernel_rfl) (by kernel_rfl) hQ ⟨61, by rw [hO]; rfl, q61_62⟩ sV (fun w _ => k_eqi q63_62 q68_62 w) ?_
  intro b63 e63
  have q1_63 := q1_62.mv e63 rfl
  have q2_63 := q2_62.mv e63 rfl
  have q61_63 := q61_62.mv e63 rfl
  have q69_63 : At b63 69 (.bool true) := e63 ▸ At.eq (by rw [z62]; decide)
  have z63 : b63.tmps.size = 81 := (e63 ▸ size_put _ _ _).trans z62
  have df63 : b63.defers = [] := by rw [e63]; exact df62
  clear q1_62 q2_62 q61_62 q63_62 q68_62 e63 z62 df62
  refine stepV 63 (o := ⟨some 70, Op.pick (Operand.tmp 61) (Operand.tmp 69) (Operand.const (Value.bool false)), 4, "law.go:68", #[⟨54, Ground.data⟩, ⟨62, Ground.data⟩], none⟩) (v := .bool true) (d := 70) (listed' := #[true, true, true, true, true, true, true, true, true, true, true, true, true, true, true, true, true, true, true, true, true, true, true, true, true, true, true, true, true, true, true, true, true, true, true, true, true, true, true, true, true, true, true, true, true, true, true, true, true, true, true, true, true, true, true, true, true, true, true, true, true, true, true, true, false, false, false, false, false, false, false, false, false, false, false]) (by rw [hO]; rfl) rfl hns (by rw [hO]; kernel_rfl) (by rw [hO]; kernel_rfl) (by kernel_rfl) hQ trivial sV (fun w _ => k_pick q61_63 q69_63 w) ?_
  intro b64 e64
  have q1_64 := q1_63.mv e64 rfl
  have q2_64 := q2_63.mv e64 rfl
  have q70_64 : At b64 70 (.bool true) := e64 ▸ At.eq (by rw [z63]; decide)
  have z64 : b64.tmps.size = 81 := (e64 ▸ size_put _ _ _).trans z63
  have df64 : b64.defers = [] := by rw [e64]; exact df63
  clear q1_63 q2_63 q61_63 q69_63 e64 z63 df63
  refine stepV 64 (o := ⟨some 71, Op.move (Operand.tmp 70), 4, "law.go:68", #[⟨63, Ground.data⟩, ⟨61, Ground.chain⟩], none⟩) (v := .bool true) (d := 71) (listed' := #[true, true, true, true, true, true, true, true, true, true, true, true, true, true, true, true, true, true, true, true, true, true, true, true, true, true, true, true, true, true, true, true, true, true, true, true, true, true, true, true, true, true, true, true, true, true, true, true, true, true, true, true, true, true, true, true, true, true, true, true, true, true, true, true, true, false, false, false, false, false, false, false, false, false, false]) (by rw [hO]; rfl) rfl hns (by rw [hO]; kernel_rfl) (by rw [hO]; kernel_rfl) (by kernel_rfl) hQ trivial sV (fun w _ => k_move q70_64 w) ?_
  intro b65 e65
  have q1_65 := q1_64.mv e65 rfl
  have q2_65 := q2_64.mv e65 rfl
  have q71_65 : At b65 71 (.bool true) := e65 ▸ At.eq (by rw [z64]; decide)
  have z65 : b65.tmps.size = 81 := (e65 ▸ size_put _ _ _).trans z64
  have df65 : b65.defers = [] := by rw [e65]; exact df64
  clear q1_64 q2_64 q70_64 e65 z64 df64
  refine stepV 65 (o := ⟨some 72, Op.move (Operand.tmp 2), 24, "law.go:68", #[⟨64, Ground.guard⟩], some (64, true)⟩) (v := .pointer (some ⟨d, 0, none⟩)) (d := 72) (listed' := #[true, true, true, true, true, true, true, true, true, true, true, true, true, true, true, true, true, true, true, true, true, true, true, true, true, true, true, true, true, true, true, true, true, true, true, true, true, true, true, true, true, true, true, true, true, true, true, true, true, true, true, true, true, true, true, true, true, true, true, true, true, true, true, true, true, true, false, false, false, false, false, false, false, false, false]) (by rw [hO]; rfl) rfl hns (by rw [hO]; kernel_rfl) (by rw [hO]; kernel_rfl) (by kernel_rfl) hQ ⟨71, by rw [hO]; rfl, q71_65⟩ sV (fun w _ => k_move q2_65 w) ?_
  intro b66 e66
  have q1_66 := q1_65.mv e66 rfl
  have q71_66 := q71_65.mv e66 rfl
  have q72_66 : At b66 72 (.pointer (some ⟨d, 0, none⟩)) := e66 ▸ At.eq (by rw [z65]; decide)
  have z66 : b66.tmps.size = 81 := (e66 ▸ size_put _ _ _).trans z65
  have df66 : b66.defers = [] := by rw [e66]; exact df65
  clear q1_65 q2_65 q71_65 e66 z65 df65
  refine stepV 67 (o := ⟨some 74, Op.move (Operand.tmp 1), 35, "law.go:68", #[⟨64, Ground.guard⟩], some (64, true)⟩) (v := .pointer (some ⟨rb, 0, none⟩)) (d := 74) (listed' := #[true, true, true, true, true, true, true, true, true, true, true, true, true, true, true, true, true, true, true, true, true, true, true, true, true, true, true, true, true, true, true, true, true, true, true, true, true, true, true, true, true, true, true, true, true, true, true, true, true, true, true, true, true, true, true, true, true, true, true, true, true, true, true, true, true, true, false, true, false, false, false, false, false, false, false]) (by rw [hO]; rfl) rfl hns (by rw [hO]; kernel_rfl) (by rw [hO]; kernel_rfl) (by kernel_rfl) hQ ⟨71, by rw [hO]; rfl, q71_66⟩ sV (fun w _ => k_move q1_66 w) ?_
  intro b67 e67
  have q71_67 := q71_66.mv e67 rfl
  have q72_67 := q72_66.mv e67 rfl
  have q74_67 : At b67 74 (.pointer (some ⟨rb, 0, none⟩)) := e67 ▸ At.eq (by rw [z66]; decide)
  have z67 : b67.tmps.size = 81 := (e67 ▸ size_put _ _ _).trans z66
  have df67 : b67.defers = [] := by rw [e67]; exact df66
  clear q1_66 q71_66 q72_66 e67 z66 df66
  refine stepV 68 (o := ⟨some 75, Op.nilCheck (Operand.tmp 74), 0, "law.go:68", #[⟨67, Ground.data⟩, ⟨64, Ground.guard⟩], some (64, true)⟩) (v := .pointer (some ⟨rb, 0, none⟩)) (d := 75) (listed' := #[true, true, true, true, true, true, true, true, true, true, true, true, true, true, true, true, true, true, true, true, true, true, true, true, true, true, true, true, true, true, true, true, true, true, true, true, true, true, true, true, true, true, true, true, true, true, true, true, true, true, true, true, true, true, true, true, true, true, true, true, true, true, true, true, true, true, false, true, true, false, false, false, false, false, false]) (by rw [hO]; rfl) rfl hns (by rw [hO]; kernel_rfl) (by rw [hO]; kernel_rfl) (by kernel_rfl) hQ ⟨71, by rw [hO]; rfl, q71_67⟩ sV (fun w _ => k_nil q74_67 w) ?_
  intro b68 e68
  have q71_68 := q71_67.mv e68 rfl
  have q72_68 := q72_67.mv e68 rfl
  have q75_68 : At b68 75 (.pointer (some ⟨rb, 0, none⟩)) := e68 ▸ At.eq (by rw [z67]; decide)
  have z68 : b68.tmps.size = 81 := (e68 ▸ size_put _ _ _).trans z67
  have df68 : b68.defers = [] := by rw [e68]; exact df67
  clear q71_67 q72_67 q74_67 e68 z67 df67
  refine stepV 69 (o := ⟨some 76, Op.fieldAddr 73 (Operand.tmp 75) 0, 0, "law.go:68", #[⟨68, Ground.data⟩, ⟨64, Ground.guard⟩], some (64, true)⟩) (v := .pointer (some ⟨rb, 0, none⟩)) (d := 76) (listed' := #[true, true, true, true, true, true, true, true, true, true, true, true, true, true, true, true, true, true, true, true, true, true, true, true, true, true, true, true, true, true, true, true, true, true, true, true, true, true, true, true, true, true, true, true, true, true, true, true, true, true, true, true, true, true, true, true, true, true, true, true, true, true, true, true, true, true, false, true, true, true, false, false, false, false, false]) (by rw [hO]; rfl) rfl hns (by rw [hO]; kernel_rfl) (by rw [hO]; kernel_rfl) (by kernel_rfl) hQ ⟨71, by rw [hO]; rfl, q71_68⟩ sV (fun w _ => k_fa0 q75_68 w) ?_
  intro b69 e69
  have q71_69 := q71_68.mv e69 rfl
  have q72_69 := q72_68.mv e69 rfl
  have q76_69 : At b69 76 (.pointer (some ⟨rb, 0, none⟩)) := e69 ▸ At.eq (by rw [z68]; decide)
  have z69 : b69.tmps.size = 81 := (e69 ▸ size_put _ _ _).trans z68
  have df69 : b69.defers = [] := by rw [e69]; exact df68
  clear q71_68 q72_68 q75_68 e69 z68 df68
  refine stepV 70 (o := ⟨some 77, Op.load 26 (Operand.tmp 76), 26, "law.go:68", #[⟨69, Ground.data⟩, ⟨64, Ground.guard⟩], some (64, true)⟩) (v := .pointer (some ⟨rd, 0, none⟩)) (d := 77) (listed' := #[true, true, true, true, true, true, true, true, true, true, true, true, true, true, true, true, true, true, true, true, true, true, true, true, true, true, true, true, true, true, true, true, true, true, true, true, true, true, true, true, true, true, true, true, true, true, true, true, true, true, true, true, true, true, true, true, true, true, true, true, true, true, true, true, true, true, false, true, true, true, true, false, false, false, false]) (by rw [hO]; rfl) rfl hns (by rw [hO]; kernel_rfl) (by rw [hO]; kernel_rfl) (by kernel_rfl) hQ ⟨71, by rw [hO]; rfl, q71_69⟩ sV (fun w h => k_ld0 q76_69 w ((C.ks _ h).1)) ?_
  intro b70 e70
  have q71_70 := q71_69.mv e70 rfl
  have q72_70 := q72_69.mv e70 rfl
  have q77_70 : At b70 77 (.pointer (some ⟨rd, 0, none⟩)) := e70 ▸ At.eq (by rw [z69]; decide)
  have z70 : b70.tmps.size = 81 := (e70 ▸ size_put _ _ _).trans z69
  have df70 : b70.defers = [] := by rw [e70]; exact df69
  clear q71_69 q72_69 q76_69 e70 z69 df69
  refine stepC 66 (o := ⟨some 73, Op.call { callee := Callee.value (Operand.func 43), args := #[Operand.tmp 72, Operand.const (Value.int IntKind.i64 1)], argTypes := #[24, 3] }, 9, "law.go:68", #[⟨65, Ground.data⟩, ⟨64, Ground.chain⟩, ⟨64, Ground.guard⟩], some (64, true)⟩) (d := 73) (f := 43) (args := #[.pointer (some ⟨d, 0, none⟩), .int .i64 1]) (listed' := #[true, true, true, true, true, true, true, true, true, true, true, true, true, true, true, true, true, true, true, true, true, true, true, true, true, true, true, true, true, true, true, true, true, true, true, true, true, true, true, true, true, true, true, true, true, true, true, true, true, true, true, true, true, true, true, true, true, true, true, true, true, true, true, true, true, true, true, true, true, true, true, false, false, false, false]) (by rw [hO]; rfl) rfl (by rw [hO]; kernel_rfl) (by kernel_rfl) ⟨71, by rw [hO]; rfl, q71_70⟩ (k_c1c_43 q72_70 _) ?_
  refine (C.cK _ sV).mono ?_
  rintro e wK ⟨rfl, q⟩
  have sK := sV.trans q
  refine ⟨_, rfl, sK, ?_⟩
  intro b71 e71
  have q71_71 := q71_70.mv e71 rfl
  have q77_71 := q77_70.mv e71 rfl
  have q73_71 : At b71 73 (.string KF) := e71 ▸ At.eq (by rw [z70]; decide)
  have z71 : b71.tmps.size = 81 := (e71 ▸ size_put _ _ _).trans z70
  have df71 : b71.defers = [] := by rw [e71]; exact df70
  clear q71_70 q72_70 q77_70 e71 z70 df70
  refine stepC 71 (o := ⟨some 78, Op.call { callee := Callee.value (Operand.func 44), args := #[Operand.tmp 77, Operand.const (Value.int IntKind.i64 1)], argTypes := #[26, 3] }, 9, "law.go:68", #[⟨70, Ground.data⟩, ⟨66, Ground.chain⟩, ⟨64, Ground.guard⟩], some (64, true)⟩) (d := 78) (f := 44) (args := #[.pointer (some ⟨rd, 0, none⟩), .int .i64 1]) (listed' := #[true, true, true, true, true, true, true, true, true, true, true, true, true, true, true, true, true, true, true, true, true, true, true, true, true, true, true, true, true, true, true, true, true, true, true, true, true, true, true, true, true, true, true, true, true, true, true, true, true, true, true, true, true, true, true, true, true, true, true, true, true, true, true, true, true, true, true, true, true, true, true, true, false, false, false]) (by rw [hO]; rfl) rfl (by rw [hO]; kernel_rfl) (by kernel_rfl) ⟨71, by rw [hO]; rfl, q71_71⟩ (k_c1c_44 q77_71 _) ?_
  refine (C.cL _ sK).mono ?_
  rintro e wL ⟨rfl, q⟩
  have sL := sK.trans q
  refine ⟨_, rfl, sL, ?_⟩
  intro b72 e72
  have q71_72 := q71_71.mv e72 rfl
  have q73_72 := q73_71.mv e72 rfl
  have q78_72 : At b72 78 (.string KF) := e72 ▸ At.eq (by rw [z71]; decide)
  have z72 : b72.tmps.size = 81 := (e72 ▸ size_put _ _ _).trans z71
  have df72 : b72.defers = [] := by rw [e72]; exact df71
  clear q71_71 q77_71 q73_71 e72 z71 df71
  refine stepV 72 (o := ⟨some 79, Op.binOp BinOp.eql 9 (Operand.tmp 73) (Operand.tmp 78) 9, 4, "law.go:68", #[⟨66, Ground.data⟩, ⟨71, Ground.data⟩, ⟨64, Ground.guard⟩], some (64, true)⟩) (v := .bool true) (d := 79) (listed' := #[true, true, true, true, true, true, true, true, true, true, true, true, true, true, true, true, true, true, true, true, true, true, true, true, true, true, true, true, true, true, true, true, true, true, true, true, true, true, true, true, true, true, true, true, true, true, true, true, true, true, true, true, true, true, true, true, true, true, true, true, true, true, true, true, true, true, true, true, true, true, true, true, true, false, false]) (by rw [hO]; rfl) rfl hns (by rw [hO]; kernel_rfl) (by rw [hO]; kernel_rfl) (by kernel_rfl) hQ ⟨71, by rw [hO]; rfl, q71_72⟩ sL (fun w _ => k_eqs q73_72 q78_72 w) ?_
  intro b73 e73
  have q71_73 := q71_72.mv e73 rfl
  have q79_73 : At b73 79 (.bool true) := e73 ▸ At.eq (by rw [z72]; decide)
  have z73 : b73.tmps.size = 81 := (e73 ▸ size_put _ _ _).trans z72
  have df73 : b73.defers = [] := by rw [e73]; exact df72
  clear q71_72 q73_72 q78_72 e73 z72 df72
  refine stepV 73 (o := ⟨some 80, Op.pick (Operand.tmp 71) (Operand.tmp 79) (Operand.const (Value.bool false)), 4, "law.go:68", #[⟨64, Ground.data⟩, ⟨72, Ground.data⟩], none⟩) (v := .bool true) (d := 80) (listed' := #[true, true, true, true, true, true, true, true, true, true, true, true, true, true, true, true, true, true, true, true, true, true, true, true, true, true, true, true, true, true, true, true, true, true, true, true, true, true, true, true, true, true, true, true, true, true, true, true, true, true, true, true, true, true, true, true, true, true, true, true, true, true, true, true, true, true, true, true, true, true, true, true, true, true, false]) (by rw [hO]; rfl) rfl hns (by rw [hO]; kernel_rfl) (by rw [hO]; kernel_rfl) (by kernel_rfl) hQ trivial sL (fun w _ => k_pick q71_73 q79_73 w) ?_
  intro b74 e74
  have q80_74 : At b74 80 (.bool true) := e74 ▸ At.eq (by rw [z73]; decide)
  have z74 : b74.tmps.size = 81 := (e74 ▸ size_put _ _ _).trans z73
  have df74 : b74.defers = [] := by rw [e74]; exact df73
  clear q71_73 q79_73 e74 z73 df73
  refine stepV 74 (o := ⟨some 6, Op.assign (Operand.tmp 80), 4, "law.go:68", #[⟨73, Ground.data⟩, ⟨71, Ground.chain⟩, ⟨0, Ground.phase⟩, ⟨1, Ground.phase⟩, ⟨2, Ground.phase⟩, ⟨3, Ground.phase⟩, ⟨4, Ground.phase⟩, ⟨5, Ground.phase⟩, ⟨6, Ground.phase⟩, ⟨7, Ground.phase⟩, ⟨8, Ground.phase⟩, ⟨9, Ground.phase⟩, ⟨10, Ground.phase⟩, ⟨11, Ground.phase⟩, ⟨12, Ground.phase⟩, ⟨13, Ground.phase⟩, ⟨14, Ground.phase⟩, ⟨15, Ground.phase⟩, ⟨16, Ground.phase⟩, ⟨17, Ground.phase⟩, ⟨18, Ground.phase⟩, ⟨19, Ground.phase⟩, ⟨20, Ground.phase⟩, ⟨21, Ground.phase⟩, ⟨22, Ground.phase⟩, ⟨23, Ground.phase⟩, ⟨24, Ground.phase⟩, ⟨25, Ground.phase⟩, ⟨26, Ground.phase⟩, ⟨27, Ground.phase⟩, ⟨28, Ground.phase⟩, ⟨29, Ground.phase⟩, ⟨30, Ground.phase⟩, ⟨31, Ground.phase⟩, ⟨32, Ground.phase⟩, ⟨33, Ground.phase⟩, ⟨34, Ground.phase⟩, ⟨35, Ground.phase⟩, ⟨36, Ground.phase⟩, ⟨37, Ground.phase⟩, ⟨38, Ground.phase⟩, ⟨39, Ground.phase⟩, ⟨40, Ground.phase⟩, ⟨41, Ground.phase⟩, ⟨42, Ground.phase⟩, ⟨43, Ground.phase⟩, ⟨44, Ground.phase⟩, ⟨45, Ground.phase⟩, ⟨46, Ground.phase⟩, ⟨47, Ground.phase⟩, ⟨48, Ground.phase⟩, ⟨49, Ground.phase⟩, ⟨50, Ground.phase⟩, ⟨51, Ground.phase⟩, ⟨52, Ground.phase⟩, ⟨53, Ground.phase⟩, ⟨54, Ground.phase⟩, ⟨55, Ground.phase⟩, ⟨56, Ground.phase⟩, ⟨57, Ground.phase⟩, ⟨58, Ground.phase⟩, ⟨59, Ground.phase⟩, ⟨60, Ground.phase⟩, ⟨61, Ground.phase⟩, ⟨62, Ground.phase⟩, ⟨63, Ground.phase⟩, ⟨64, Ground.phase⟩, ⟨65, Ground.phase⟩, ⟨66, Ground.phase⟩, ⟨67, Ground.phase⟩, ⟨68, Ground.phase⟩, ⟨69, Ground.phase⟩, ⟨70, Ground.phase⟩, ⟨71, Ground.phase⟩, ⟨72, Ground.phase⟩, ⟨73, Ground.phase⟩], none⟩) (v := .bool true) (d := 6) (listed' := #[true, true, true, true, true, true, true, true, true, true, true, true, true, true, true, true, true, true, true, true, true, true, true, true, true, true, true, true, true, true, true, true, true, true, true, true, true, true, true, true, true, true, true, true, true, true, true, true, true, true, true, true, true, true, true, true, true, true, true, true, true, true, true, true, true, true, true, true, true, true, true, true, true, true, true]) (by rw [hO]; rfl) rfl hns (by rw [hO]; kernel_rfl) (by rw [hO]; kernel_rfl) (by kernel_rfl) hQ trivial sL (fun w _ => k_asg q80_74 w) ?_
  intro b75 e75
  have q6_75 : At b75 6 (.bool true) := e75 ▸ At.eq (by rw [z74]; decide)
  have z75 : b75.tmps.size = 81 := (e75 ▸ size_put _ _ _).trans z74
  have df75 : b75.defers = [] := by rw [e75]; exact df74
  clear q80_74 e75 z74 df74
  exact wpAnyH_done (by rw [hO]; kernel_rfl) (F _ _ q6_75 df75 sL) 0
set_option maxHeartbeats 4000000 in
theorem regS1 {Q : Exit → Act → World → Prop} {ops : Array Oper} {a : Act} {w w0 : World} {b d rb rd cr sure T : Nat} {x : Wg.St} {ar : Option Addr} {P F0 F1 KF : ByteArray} (hO : ops = litS) (hns : Region.noSelect ops = true) (hQ : ∀ c a w (d : Nat) v, Q (.panic c) (a.put (some d) v) w → Q (.panic c) a w) (C : SameC w0 b d rb rd x ar cr sure P F0 F1 KF T) (F : ∀ a' w', At a' 6 (.bool true) → a'.defers = [] → Kept w0 w' → Q .normal a' w')
    (z23 : a.tmps.size = 81) (df23 : a.defers = []) (q0_23 : At a 0 (.pointer (some ⟨b, 0, none⟩))) (q1_23 : At a 1 (.pointer (some ⟨rb, 0, none⟩))) (q2_23 : At a 2 (.pointer (some ⟨d, 0, none⟩))) (q23_23 : At a 23 (.bool true)) (q29_23 : At a 29 (.int .i64 sure)) (q25_23 : At a 25 (.int .i64 sure)) (sSure : Kept w0 w) :
    wpAnyH Tryd.prog .any ops Q (Kept w0) 52 #[true, true, true, true, true, true, true, true, true, true, true, true, true, true, true, true, true, true, true, true, true, true, true, false, false, false, false, false, false, false, false, false, false, false, false, false, false, false, false, false, false, false, false, false, false, false, false, false, false, false, false, false, false, false, false, false, false, false, false, false, false, false, false, false, false, false, false, false, false, false, false, false, false, false, false] a w := by
  refine stepV 23 (o := ⟨some 30, Op.binOp BinOp.eql 3 (Operand.tmp 25) (Operand.tmp 29) 3, 4, "law.go:68", #[⟨18, Ground.data⟩, ⟨22, Ground.data⟩, ⟨16, Ground.guard⟩], some (16, true)⟩) (v := .bool true) (d := 30) (listed' := #[true, true, true, true, true, true, true, true, true, true, true, true, true, true, true, true, true, true, true, true, true, true, true, true, false, false, false, false, false, false, false, false, false, false, false, false, false, false, false, false, false, false, false, false, false, false, false, false, false, false, false, false, false, false, false, false, false, false, false, false, false, false, false, false, false, false, false, false, false, false, false, false, false, false, false]) (by rw [hO]; rfl) rfl hns (by rw [hO]; kernel_rfl) (by rw [hO]; kernel_rfl) (by kernel_rfl) hQ ⟨23, by rw [hO]; rfl, q23_23⟩ sSure (fun w _ => k_eqi q25_23 q29_23 w) ?_
  intro b24 e24
  have q0_24 := q0_23.mv e24 rfl
  have q1_24 := q1_23.mv e24 rfl
  have q2_24 := q2_23.mv e24 rfl
  have q23_24 := q23_23.mv e24 rfl
  have q30_24 : At b24 30 (.bool true) := e24 ▸ At.eq (by rw [z23]; decide)
  have z24 : b24.tmps.size = 81 := (e24 ▸ size_put _ _ _).trans z23
  have df24 : b24.defers = [] := by rw [e24]; exact df23
  clear q0_23 q1_23 q2_23 q23_23 q29_23 q25_23 e24 z23 df23
  refine stepV 24 (o := ⟨some 31, Op.pick (Operand.tmp 23) (Operand.tmp 30) (Operand.const (Value.bool false)), 4, "law.go:68", #[⟨16, Ground.data⟩, ⟨23, Ground.data⟩], none⟩) (v := .bool true) (d := 31) (listed' := #[true, true, true, true, true, true, true, true, true, true, true, true, true, true, true, true, true, true, true, true, true, true, true, true, true, false, false, false, false, false, false, false, false, false, false, false, false, false, false, false, false, false, false, false, false, false, false, false, false, false, false, false, false, false, false, false, false, false, false, false, false, false, false, false, false, false, false, false, false, false, false, false, false, false, false]) (by rw [hO]; rfl) rfl hns (by rw [hO]; kernel_rfl) (by rw [hO]; kernel_rfl) (by kernel_rfl) hQ trivial sSure (fun w _ => k_pick q23_24 q30_24 w) ?_
  intro b25 e25
  have q0_25 := q0_24.mv e25 rfl
  have q1_25 := q1_24.mv e25 rfl
  have q2_25 := q2_24.mv e25 rfl
  have q31_25 : At b25 31 (.bool true) := e25 ▸ At.eq (by rw [z24]; decide)
  have z25 : b25.tmps.size = 81 := (e25 ▸ size_put _ _ _).trans z24
  have df25 : b25.defers = [] := by rw [e25]; exact df24
  clear q0_24 q1_24 q2_24 q23_24 q30_24 e25 z24 df24
  refine stepV 25 (o := ⟨some 32, Op.move (Operand.tmp 31), 4, "law.go:68", #[⟨24, Ground.data⟩, ⟨18, Ground.chain⟩], none⟩) (v := .bool true) (d := 32) (listed' := #[true, true, true, true, true, true, true, true, true, true, true, true, true, true, true, true, true, true, true, true, true, true, true, true, true, true, false, false, false, false, false, false, false, false, false, false, false, false, false, false, false, false, false, false, false, false, false, false, false, false, false, false, false, false, false, false, false, false, false, false, false, false, false, false, false, false, false, false, false, false, false, false, false, false, false]) (by rw [hO]; rfl) rfl hns (by rw [hO]; kernel_rfl) (by rw [hO]; kernel_rfl) (by kernel_rfl) hQ trivial sSure (fun w _ => k_move q31_25 w) ?_
  intro b26 e26
  have q0_26 := q0_25.mv e26 rfl
  have q1_26 := q1_25.mv e26 rfl
  have q2_26 := q2_25.mv e26 rfl
  have q32_26 : At b26 32 (.bool true) := e26 ▸ At.eq (by rw [z25]; decide)
  have z26 : b26.tmps.size = 81 := (e26 ▸ size_put _ _ _).trans z25
  have df26 : b26.defers = [] := by rw [e26]; exact df25
  clear q0_25 q1_25 q2_25 q31_25 e26 z25 df25
  refine stepV 26 (o := ⟨some 33, Op.move (Operand.tmp 0), 31, "law.go:68", #[⟨25, Ground.guard⟩], some (25, true)⟩) (v := .pointer (some ⟨b, 0, none⟩)) (d := 33) (listed' := #[true, true, true, true, true, true, true, true, true, true, true, true, true, true, true, true, true, true, true, true, true, true, true, true, true, true, true, false, false, false, false, false, false, false, false, false, false, false, false, false, false, false, false, false, false, false, false, false, false, false, false, false, false, false, false, false, false, false, false, false, false, false, false, false, false, false, false, false, false, false, false, false, false, false, false]) (by rw [hO]; rfl) rfl hns (by rw [hO]; kernel_rfl) (by rw [hO]; kernel_rfl) (by kernel_rfl) hQ ⟨32, by rw [hO]; rfl, q32_26⟩ sSure (fun w _ => k_move q0_26 w) ?_
  intro b27 e27
  have q1_27 := q1_26.mv e27 rfl
  have q2_27 := q2_26.mv e27 rfl
  have q32_27 := q32_26.mv e27 rfl
  have q33_27 : At b27 33 (.pointer (some ⟨b, 0, none⟩)) := e27 ▸ At.eq (by rw [z26]; decide)
  have z27 : b27.tmps.size = 81 := (e27 ▸ size_put _ _ _).trans z26
  have df27 : b27.defers = [] := by rw [e27]; exact df26
  clear q0_26 q1_26 q2_26 q32_26 e27 z26 df26
  refine stepV 28 (o := ⟨some 35, Op.move (Operand.tmp 1), 35, "law.go:68", #[⟨25, Ground.guard⟩], some (25, true)⟩) (v := .pointer (some ⟨rb, 0, none⟩)) (d := 35) (listed' := #[true, true, true, true, true, true, true, true, true, true, true, true, true, true, true, true, true, true, true, true, true, true, true, true, true, true, true, false, true, false, false, false, false, false, false, false, false, false, false, false, false, false, false, false, false, false, false, false, false, false, false, false, false, false, false, false, false, false, false, false, false, false, false, false, false, false, false, false, false, false, false, false, false, false, false]) (by rw [hO]; rfl) rfl hns (by rw [hO]; kernel_rfl) (by rw [hO]; kernel_rfl) (by kernel_rfl) hQ ⟨32, by rw [hO]; rfl, q32_27⟩ sSure (fun w _ => k_move q1_27 w) ?_
  intro b28 e28
  have q1_28 := q1_27.mv e28 rfl
  have q2_28 := q2_27.mv e28 rfl
  have q32_28 := q32_27.mv e28 rfl
  have q33_28 := q33_27.mv e28 rfl
  have q35_28 : At b28 35 (.pointer (some ⟨rb, 0, none⟩)) := e28 ▸ At.eq (by rw [z27]; decide)
  have z28 : b28.tmps.size = 81 := (e28 ▸ size_put _ _ _).trans z27
  have df28 : b28.defers = [] := by rw [e28]; exact df27
  clear q1_27 q2_27 q32_27 q33_27 e28 z27 df27
  refine stepV 29 (o := ⟨some 36, Op.nilCheck (Operand.tmp 35), 0, "law.go:68", #[⟨28, Ground.data⟩, ⟨25, Ground.guard⟩], some (25, true)⟩) (v := .pointer (some ⟨rb, 0, none⟩)) (d := 36) (listed' := #[true, true, true, true, true, true, true, true, true, true, true, true, true, true, true, true, true, true, true, true, true, true, true, true, true, true, true, false, true, true, false, false, false, false, false, false, false, false, false, false, false, false, false, false, false, false, false, false, false, false, false, false, false, false, false, false, false, false, false, false, false, false, false, false, false, false, false, false, false, false, false, false, false, false, false]) (by rw [hO]; rfl) rfl hns (by rw [hO]; kernel_rfl) (by rw [hO]; kernel_rfl) (by kernel_rfl) hQ ⟨32, by rw [hO]; rfl, q32_28⟩ sSure (fun w _ => k_nil q35_28 w) ?_
  intro b29 e29
  have q1_29 := q1_28.mv e29 rfl
  have q2_29 := q2_28.mv e29 rfl
  have q32_29 := q32_28.mv e29 rfl
  have q33_29 := q33_28.mv e29 rfl
  have q36_29 : At b29 36 (.pointer (some ⟨rb, 0, none⟩)) := e29 ▸ At.eq (by rw [z28]; decide)
  have z29 : b29.tmps.size = 81 := (e29 ▸ size_put _ _ _).trans z28
  have df29 : b29.defers = [] := by rw [e29]; exact df28
  clear q1_28 q2_28 q32_28 q33_28 q35_28 e29 z28 df28
  refine stepV 30 (o := ⟨some 37, Op.fieldAddr 73 (Operand.tmp 36) 1, 0, "law.go:68", #[⟨29, Ground.data⟩, ⟨25, Ground.guard⟩], some (25, true)⟩) (v := .pointer (some ⟨rb, 1, none⟩)) (d := 37) (listed' := #[true, true, true, true, true, true, true, true, true, true, true, true, true, true, true, true, true, true, true, true, true, true, true, true, true, true, true, false, true, true, true, false, false, false, false, false, false, false, false, false, false, false, false, false, false, false, false, false, false, false, false, false, false, false, false, false, false, false, false, false, false, false, false, false, false, false, false, false, false, false, false, false, false, false, false]) (by rw [hO]; rfl) rfl hns (by rw [hO]; kernel_rfl) (by rw [hO]; kernel_rfl) (by kernel_rfl) hQ ⟨32, by rw [hO]; rfl, q32_29⟩ sSure (fun w _ => k_fa1 q36_29 w) ?_
  intro b30 e30
  have q1_30 := q1_29.mv e30 rfl
  have q2_30 := q2_29.mv e30 rfl
  have q32_30 := q32_29.mv e30 rfl
  have q33_30 := q33_29.mv e30 rfl
  have q37_30 : At b30 37 (.pointer (some ⟨rb, 1, none⟩)) := e30 ▸ At.eq (by rw [z29]; decide)
  have z30 : b30.tmps.size = 81 := (e30 ▸ size_put _ _ _).trans z29
  have df30 : b30.defers = [] := by rw [e30]; exact df29
  clear q1_29 q2_29 q32_29 q33_29 q36_29 e30 z29 df29
  refine stepV 31 (o := ⟨some 38, Op.load 3 (Operand.tmp 37), 3, "law.go:68", #[⟨30, Ground.data⟩, ⟨25, Ground.guard⟩], some (25, true)⟩) (v := .int .i64 x.r) (d := 38) (listed' := #[true, true, true, true, true, true, true, true, true, true, true, true, true, true, true, true, true, true, true, true, true, true, true, true, true, true, true, false, true, true, true, true, false, false, false, false, false, false, false, false, false, false, false, false, false, false, false, false, false, false, false, false, false, false, false, false, false, false, false, false, false, false, false, false, false, false, false, false, false, false, false, false, false, false, false]) (by rw [hO]; rfl) rfl hns (by rw [hO]; kernel_rfl) (by rw [hO]; kernel_rfl) (by kernel_rfl) hQ ⟨32, by rw [hO]; rfl, q32_30⟩ sSure (fun w h => k_ld1 q37_30 w ((C.ks _ h).2.1)) ?_
  intro b31 e31
  have q1_31 := q1_30.mv e31 rfl
  have q2_31 := q2_30.mv e31 rfl
  have q32_31 := q32_30.mv e31 rfl
  have q33_31 := q33_30.mv e31 rfl
  have q38_31 : At b31 38 (.int .i64 x.r) := e31 ▸ At.eq (by rw [z30]; decide)
  have z31 : b31.tmps.size = 81 := (e31 ▸ size_put _ _ _).trans z30
  have df31 : b31.defers = [] := by rw [e31]; exact df30
  clear q1_30 q2_30 q32_30 q33_30 q37_30 e31 z30 df30
  refine stepC 27 (o := ⟨some 34, Op.call { callee := Callee.value (Operand.func 35), args := #[Operand.tmp 33], argTypes := #[31] }, 3, "law.go:68", #[⟨26, Ground.data⟩, ⟨25, Ground.chain⟩, ⟨25, Ground.guard⟩], some (25, true)⟩) (d := 34) (f := 35) (args := #[.pointer (some ⟨b, 0, none⟩)]) (listed' := #[true, true, true, true, true, true, true, true, true, true, true, true, true, true, true, true, true, true, true, true, true, true, true, true, true, true, true, true, true, true, true, true, false, false, false, false, false, false, false, false, false, false, false, false, false, false, false, false, false, false, false, false, false, false, false, false, false, false, false, false, false, false, false, false, false, false, false, false, false, false, false, false, false, false, false]) (by rw [hO]; rfl) rfl (by rw [hO]; kernel_rfl) (by kernel_rfl) ⟨32, by rw [hO]; rfl, q32_31⟩ (k_c1_35 q33_31 _) ?_
  refine (C.cRound _ sSure).mono ?_
  rintro e wRound ⟨rfl, q⟩
  have sRound := sSure.trans q
  refine ⟨_, rfl, sRound, ?_⟩
  intro b32 e32
  have q1_32 := q1_31.mv e32 rfl
  have q2_32 := q2_31.mv e32 rfl
  have q32_32 := q32_31.mv e32 rfl
  have q38_32 := q38_31.mv e32 rfl
  have q34_32 : At b32 34 (.int .i64 x.r) := e32 ▸ At.eq (by rw [z31]; decide)
  have z32 : b32.tmps.size = 81 := (e32 ▸ size_put _ _ _).trans z31
  have df32 : b32.defers = [] := by rw [e32]; exact df31
  clear q1_31 q2_31 q32_31 q33_31 q38_31 e32 z31 df31
  refine stepV 32 (o := ⟨some 39, Op.binOp BinOp.eql 3 (Operand.tmp 34) (Operand.tmp 38) 3, 4, "law.go:68", #[⟨27, Ground.data⟩, ⟨31, Ground.data⟩, ⟨25, Ground.guard⟩], some (25, true)⟩) (v := .bool true) (d := 39) (listed' := #[true, true, true, true, true, true, true, true, true, true, true, true, true, true, true, true, true, true, true, true, true, true, true, true, true, true, true, true, true, true, true, true, true, false, false, false, false, false, false, false, false, false, false, false, false, false, false, false, false, false, false, false, false, false, false, false, false, false, false, false, false, false, false, false, false, false, false, false, false, false, false, false, false, false, false]) (by rw [hO]; rfl) rfl hns (by rw [hO]; kernel_rfl) (by rw [hO]; kernel_rfl) (by kernel_rfl) hQ ⟨32, by rw [hO]; rfl, q32_32⟩ sRound (fun w _ => k_eqi q34_32 q38_32 w) ?_
  intro b33 e33
  have q1_33 := q1_32.mv e33 rfl
  have q2_33 := q2_32.mv e33 rfl
  have q32_33 := q32_32.mv e33 rfl
  have q39_33 : At b33 39 (.bool true) := e33 ▸ At.eq (by rw [z32]; decide)
  have z33 : b33.tmps.size = 81 := (e33 ▸ size_put _ _ _).trans z32
  have df33 : b33.defers = [] := by rw [e33]; exact df32
  clear q1_32 q2_32 q32_32 q38_32 q34_32 e33 z32 df32
  refine stepV 33 (o := ⟨some 40, Op.pick (Operand.tmp 32) (Operand.tmp 39) (Operand.const (Value.bool false)), 4, "law.go:68", #[⟨25, Ground.data⟩, ⟨32, Ground.data⟩], none⟩) (v := .bool true) (d := 40) (listed' := #[true, true, true, true, true, true, true, true, true, true, true, true, true, true, true, true, true, true, true, true, true, true, true, true, true, true, true, true, true, true, true, true, true, true, false, false, false, false, false, false, false, false, false, false, false, false, false, false, false, false, false, false, false, false, false, false, false, false, false, false, false, false, false, false, false, false, false, false, false, false, false, false, false, false, false]) (by rw [hO]; rfl) rfl hns (by rw [hO]; kernel_rfl) (by rw [hO]; kernel_rfl) (by kernel_rfl) hQ trivial sRound (fun w _ => k_pick q32_33 q39_33 w) ?_
  intro b34 e34
  have q1_34 := q1_33.mv e34 rfl
  have q2_34 := q2_33.mv e34 rfl
  have q40_34 : At b34 40 (.bool true) := e34 ▸ At.eq (by rw [z33]; decide)
  have z34 : b34.tmps.size = 81 := (e34 ▸ size_put _ _ _).trans z33
  have df34 : b34.defers = [] := by rw [e34]; exact df33
  clear q1_33 q2_33 q32_33 q39_33 e34 z33 df33
  refine stepV 34 (o := ⟨some 41, Op.move (Operand.tmp 40), 4, "law.go:68", #[⟨33, Ground.data⟩, ⟨27, Ground.chain⟩], none⟩) (v := .bool true) (d := 41) (listed' := #[true, true, true, true, true, true, true, true, true, true, true, true, true, true, true, true, true, true, true, true, true, true, true, true, true, true, true, true, true, true, true, true, true, true, true, false, false, false, false, false, false, false, false, false, false, false, false, false, false, false, false, false, false, false, false, false, false, false, false, false, false, false, false, false, false, false, false, false, false, false, false, false, false, false, false]) (by rw [hO]; rfl) rfl hns (by rw [hO]; kernel_rfl) (by rw [hO]; kernel_rfl) (by kernel_rfl) hQ trivial sRound (fun w _ => k_move q40_34 w) ?_
  intro b35 e35
  have q1_35 := q1_34.mv e35 rfl
  have q2_35 := q2_34.mv e35 rfl
  have q41_35 : At b35 41 (.bool true) := e35 ▸ At.eq (by rw [z34]; decide)
  have z35 : b35.tmps.size = 81 := (e35 ▸ size_put _ _ _).trans z34
  have df35 : b35.defers = [] := by rw [e35]; exact df34
  clear q1_34 q2_34 q40_34 e35 z34 df34
  refine stepV 35 (o := ⟨some 42, Op.move (Operand.tmp 2), 24, "law.go:68", #[⟨34, Ground.guard⟩], some (34, true)⟩) (v := .pointer (some ⟨d, 0, none⟩)) (d := 42) (listed' := #[true, true, true, true, true, true, true, true, true, true, true, true, true, true, true, true, true, true, true, true, true, true, true, true, true, true, true, true, true, true, true, true, true, true, true, true, false, false, false, false, false, false, false, false, false, false, false, false, false, false, false, false, false, false, false, false, false, false, false, false, false, false, false, false, false, false, false, false, false, false, false, false, false, false, false]) (by rw [hO]; rfl) rfl hns (by rw [hO]; kernel_rfl) (by rw [hO]; kernel_rfl) (by kernel_rfl) hQ ⟨41, by rw [hO]; rfl, q41_35⟩ sRound (fun w _ => k_move q2_35 w) ?_
  intro b36 e36
  have q1_36 := q1_35.mv e36 rfl
  have q2_36 := q2_35.mv e36 rfl
  have q41_36 := q41_35.mv e36 rfl
  have q42_36 : At b36 42 (.pointer (some ⟨d, 0, none⟩)) := e36 ▸ At.eq (by rw [z35]; decide)
  have z36 : b36.tmps.size = 81 := (e36 ▸ size_put _ _ _).trans z35
  have df36 : b36.defers = [] := by rw [e36]; exact df35
  clear q1_35 q2_35 q41_35 e36 z35 df35
  refine stepV 37 (o := ⟨some 44, Op.move (Operand.tmp 1), 35, "law.go:68", #[⟨34, Ground.guard⟩], some (34, true)⟩) (v := .pointer (some ⟨rb, 0, none⟩)) (d := 44) (listed' := #[true, true, true, true, true, true, true, true, true, true, true, true, true, true, true, true, true, true, true, true, true, true, true, true, true, true, true, true, true, true, true, true, true, true, true, true, false, true, false, false, false, false, false, false, false, false, false, false, false, false, false, false, false, false, false, false, false, false, false, false, false, false, false, false, false, false, false, false, false, false, false, false, false, false, false]) (by rw [hO]; rfl) rfl hns (by rw [hO]; kernel_rfl) (by rw [hO]; kernel_rfl) (by kernel_rfl) hQ ⟨41, by rw [hO]; rfl, q41_36⟩ sRound (fun w _ => k_move q1_36 w) ?_
  intro b37 e37
  have q1_37 := q1_36.mv e37 rfl
  have q2_37 := q2_36.mv e37 rfl
  have q41_37 := q41_36.mv e37 rfl
  have q42_37 := q42_36.mv e37 rfl
  have q44_37 : At b37 44 (.pointer (some ⟨rb, 0, none⟩)) := e37 ▸ At.eq (by rw [z36]; decide)
  have z37 : b37.tmps.size = 81 := (e37 ▸ size_put _ _ _).trans z36
  have df37 : b37.defers = [] := by rw [e37]; exact df36
  clear q1_36 q2_36 q41_36 q42_36 e37 z36 df36
  refine stepV 38 (o := ⟨some 45, Op.nilCheck (Operand.tmp 44), 0, "law.go:68", #[⟨37, Ground.data⟩, ⟨34, Ground.guard⟩], some (34, true)⟩) (v := .pointer (some ⟨rb, 0, none⟩)) (d := 45) (listed' := #[true, true, true, true, true, true, true, true, true, true, true, true, true, true, true, true, true, true, true, true, true, true, true, true, true, true, true, true, true, true, true, true, true, true, true, true, false, true, true, false, false, false, false, false, false, false, false, false, false, false, false, false, false, false, false, false, false, false, false, false, false, false, false, false, false, false, false, false, false, false, false, false, false, false, false]) (by rw [hO]; rfl) rfl hns (by rw [hO]; kernel_rfl) (by rw [hO]; kernel_rfl) (by kernel_rfl) hQ ⟨41, by rw [hO]; rfl, q41_37⟩ sRound (fun w _ => k_nil q44_37 w) ?_
  intro b38 e38
  have q1_38 := q1_37.mv e38 rfl
  have q2_38 := q2_37.mv e38 rfl
  have q41_38 := q41_37.mv e38 rfl
  have q42_38 := q42_37.mv e38 rfl
  have q45_38 : At b38 45 (.pointer (some ⟨rb, 0, none⟩)) := e38 ▸ At.eq (by rw [z37]; decide)
  have z38 : b38.tmps.size = 81 := (e38 ▸ size_put _ _ _).trans z37
  have df38 : b38.defers = [] := by rw [e38]; exact df37
  clear q1_37 q2_37 q41_37 q42_37 q44_37 e38 z37 df37
  refine stepV 39 (o := ⟨some 46, Op.fieldAddr 73 (Operand.tmp 45) 0, 0, "law.go:68", #[⟨38, Ground.data⟩, ⟨34, Ground.guard⟩], some (34, true)⟩) (v := .pointer (some ⟨rb, 0, none⟩)) (d := 46) (listed' := #[true, true, true, true, true, true, true, true, true, true, true, true, true, true, true, true, true, true, true, true, true, true, true, true, true, true, true, true, true, true, true, true, true, true, true, true, false, true, true, true, false, false, false, false, false, false, false, false, false, false, false, false, false, false, false, false, false, false, false, false, false, false, false, false, false, false, false, false, false, false, false, false, false, false, false]) (by rw [hO]; rfl) rfl hns (by rw [hO]; kernel_rfl) (by rw [hO]; kernel_rfl) (by kernel_rfl) hQ ⟨41, by rw [hO]; rfl, q41_38⟩ sRound (fun w _ => k_fa0 q45_38 w) ?_
  intro b39 e39
  have q1_39 := q1_38.mv e39 rfl
  have q2_39 := q2_38.mv e39 rfl
  have q41_39 := q41_38.mv e39 rfl
  have q42_39 := q42_38.mv e39 rfl
  have q46_39 : At b39 46 (.pointer (some ⟨rb, 0, none⟩)) := e39 ▸ At.eq (by rw [z38]; decide)
  have z39 : b39.tmps.size = 81 := (e39 ▸ size_put _ _ _).trans z38
  have df39 : b39.defers = [] := by rw [e39]; exact df38
  clear q1_38 q2_38 q41_38 q42_38 q45_38 e39 z38 df38
  refine stepV 40 (o := ⟨some 47, Op.load 26 (Operand.tmp 46), 26, "law.go:68", #[⟨39, Ground.data⟩, ⟨34, Ground.guard⟩], some (34, true)⟩) (v := .pointer (some ⟨rd, 0, none⟩)) (d := 47) (listed' := #[true, true, true, true, true, true, true, true, true, true, true, true, true, true, true, true, true, true, true, true, true, true, true, true, true, true, true, true, true, true, true, true, true, true, true, true, false, true, true, true, true, false, false, false, false, false, false, false, false, false, false, false, false, false, false, false, false, false, false, false, false, false, false, false, false, false, false, false, false, false, false, false, false, false, false]) (by rw [hO]; rfl) rfl hns (by rw [hO]; kernel_rfl) (by rw [hO]; kernel_rfl) (by kernel_rfl) hQ ⟨41, by rw [hO]; rfl, q41_39⟩ sRound (fun w h => k_ld0 q46_39 w ((C.ks _ h).1)) ?_
  intro b40 e40
  have q1_40 := q1_39.mv e40 rfl
  have q2_40 := q2_39.mv e40 rfl
  have q41_40 := q41_39.mv e40 rfl
  have q42_40 := q42_39.mv e40 rfl
  have q47_40 : At b40 47 (.pointer (some ⟨rd, 0, none⟩)) := e40 ▸ At.eq (by rw [z39]; decide)
  have z40 : b40.tmps.size = 81 := (e40 ▸ size_put _ _ _).trans z39
  have df40 : b40.defers = [] := by rw [e40]; exact df39
  clear q1_39 q2_39 q41_39 q42_39 q46_39 e40 z39 df39
  refine stepC 36 (o := ⟨some 43, Op.call { callee := Callee.value (Operand.func 27), args := #[Operand.tmp 42, Operand.const (Value.int IntKind.i64 0)], argTypes := #[24, 3] }, 9, "law.go:68", #[⟨35, Ground.data⟩, ⟨34, Ground.chain⟩, ⟨34, Ground.guard⟩], some (34, true)⟩) (d := 43) (f := 27) (args := #[.pointer (some ⟨d, 0, none⟩), .int .i64 0]) (listed' := #[true, true, true, true, true, true, true, true, true, true, true, true, true, true, true, true, true, true, true, true, true, true, true, true, true, true, true, true, true, true, true, true, true, true, true, true, true, true, true, true, true, false, false, false, false, false, false, false, false, false, false, false, false, false, false, false, false, false, false, false, false, false, false, false, false, false, false, false, false, false, false, false, false, false, false]) (by rw [hO]; rfl) rfl (by rw [hO]; kernel_rfl) (by kernel_rfl) ⟨41, by rw [hO]; rfl, q41_40⟩ (k_c1c_27 q42_40 _) ?_
  refine (C.cR0 _ sRound).mono ?_
  rintro e wR0 ⟨rfl, q⟩
  have sR0 := sRound.trans q
  refine ⟨_, rfl, sR0, ?_⟩
  intro b41 e41
  have q1_41 := q1_40.mv e41 rfl
  have q2_41 := q2_40.mv e41 rfl
  have q41_41 := q41_40.mv e41 rfl
  have q47_41 := q47_40.mv e41 rfl
  have q43_41 : At b41 43 (.string F0) := e41 ▸ At.eq (by rw [z40]; decide)
  have z41 : b41.tmps.size = 81 := (e41 ▸ size_put _ _ _).trans z40
  have df41 : b41.defers = [] := by rw [e41]; exact df40
  clear q1_40 q2_40 q41_40 q42_40 q47_40 e41 z40 df40
  refine stepC 41 (o := ⟨some 48, Op.call { callee := Callee.value (Operand.func 28), args := #[Operand.tmp 47, Operand.const (Value.int IntKind.i64 0)], argTypes := #[26, 3] }, 9, "law.go:68", #[⟨40, Ground.data⟩, ⟨36, Ground.chain⟩, ⟨34, Ground.guard⟩], some (34, true)⟩) (d := 48) (f := 28) (args := #[.pointer (some ⟨rd, 0, none⟩), .int .i64 0]) (listed' := #[true, true, true, true, true, true, true, true, true, true, true, true, true, true, true, true, true, true, true, true, true, true, true, true, true, true, true, true, true, true, true, true, true, true, true, true, true, true, true, true, true, true, false, false, false, false, false, false, false, false, false, false, false, false, false, false, false, false, false, false, false, false, false, false, false, false, false, false, false, false, false, false, false, false, false]) (by rw [hO]; rfl) rfl (by rw [hO]; kernel_rfl) (by kernel_rfl) ⟨41, by rw [hO]; rfl, q41_41⟩ (k_c1c_28 q47_41 _) ?_
  refine (C.cS0 _ sR0).mono ?_
  rintro e wS0 ⟨rfl, q⟩
  have sS0 := sR0.trans q
  refine ⟨_, rfl, sS0, ?_⟩
  intro b42 e42
  have q1_42 := q1_41.mv e42 rfl
  have q2_42 := q2_41.mv e42 rfl
  have q41_42 := q41_41.mv e42 rfl
  have q43_42 := q43_41.mv e42 rfl
  have q48_42 : At b42 48 (.string F0) := e42 ▸ At.eq (by rw [z41]; decide)
  have z42 : b42.tmps.size = 81 := (e42 ▸ size_put _ _ _).trans z41
  have df42 : b42.defers = [] := by rw [e42]; exact df41
  clear q1_41 q2_41 q41_41 q47_41 q43_41 e42 z41 df41
  refine stepV 42 (o := ⟨some 49, Op.binOp BinOp.eql 9 (Operand.tmp 43) (Operand.tmp 48) 9, 4, "law.go:68", #[⟨36, Ground.data⟩, ⟨41, Ground.data⟩, ⟨34, Ground.guard⟩], some (34, true)⟩) (v := .bool true) (d := 49) (listed' := #[true, true, true, true, true, true, true, true, true, true, true, true, true, true, true, true, true, true, true, true, true, true, true, true, true, true, true, true, true, true, true, true, true, true, true, true, true, true, true, true, true, true, true, false, false, false, false, false, false, false, false, false, false, false, false, false, false, false, false, false, false, false, false, false, false, false, false, false, false, false, false, false, false, false, false]) (by rw [hO]; rfl) rfl hns (by rw [hO]; kernel_rfl) (by rw [hO]; kernel_rfl) (by kernel_rfl) hQ ⟨41, by rw [hO]; rfl, q41_42⟩ sS0 (fun w _ => k_eqs q43_42 q48_42 w) ?_
  intro b43 e43
  have q1_43 := q1_42.mv e43 rfl
  have q2_43 := q2_42.mv e43 rfl
  have q41_43 := q41_42.mv e43 rfl
  have q49_43 : At b43 49 (.bool true) := e43 ▸ At.eq (by rw [z42]; decide)
  have z43 : b43.tmps.size = 81 := (e43 ▸ size_put _ _ _).trans z42
  have df43 : b43.defers = [] := by rw [e43]; exact df42
  clear q1_42 q2_42 q41_42 q43_42 q48_42 e43 z42 df42
  refine stepV 43 (o := ⟨some 50, Op.pick (Operand.tmp 41) (Operand.tmp 49) (Operand.const (Value.bool false)), 4, "law.go:68", #[⟨34, Ground.data⟩, ⟨42, Ground.data⟩], none⟩) (v := .bool true) (d := 50) (listed' := #[true, true, true, true, true, true, true, true, true, true, true, true, true, true, true, true, true, true, true, true, true, true, true, true, true, true, true, true, true, true, true, true, true, true, true, true, true, true, true, true, true, true, true, true, false, false, false, false, false, false, false, false, false, false, false, false, false, false, false, false, false, false, false, false, false, false, false, false, false, false, false, false, false, false, false]) (by rw [hO]; rfl) rfl hns (by rw [hO]; kernel_rfl) (by rw [hO]; kernel_rfl) (by kernel_rfl) hQ trivial sS0 (fun w _ => k_pick q41_43 q49_43 w) ?_
  intro b44 e44
  have q1_44 := q1_43.mv e44 rfl
  have q2_44 := q2_43.mv e44 rfl
  have q50_44 : At b44 50 (.bool true) := e44 ▸ At.eq (by rw [z43]; decide)
  have z44 : b44.tmps.size = 81 := (e44 ▸ size_put _ _ _).trans z43
  have df44 : b44.defers = [] := by rw [e44]; exact df43
  clear q1_43 q2_43 q41_43 q49_43 e44 z43 df43
  refine stepV 44 (o := ⟨some 51, Op.move (Operand.tmp 50), 4, "law.go:68", #[⟨43, Ground.data⟩, ⟨41, Ground.chain⟩], none⟩) (v := .bool true) (d := 51) (listed' := #[true, true, true, true, true, true, true, true, true, true, true, true, true, true, true, true, true, true, true, true, true, true, true, true, true, true, true, true, true, true, true, true, true, true, true, true, true, true, true, true, true, true, true, true, true, false, false, false, false, false, false, false, false, false, false, false, false, false, false, false, false, false, false, false, false, false, false, false, false, false, false, false, false, false, false]) (by rw [hO]; rfl) rfl hns (by rw [hO]; kernel_rfl) (by rw [hO]; kernel_rfl) (by kernel_rfl) hQ trivial sS0 (fun w _ => k_move q50_44 w) ?_
  intro b45 e45
  have q1_45 := q1_44.mv e45 rfl
  have q2_45 := q2_44.mv e45 rfl
  have q51_45 : At b45 51 (.bool true) := e45 ▸ At.eq (by rw [z44]; decide)
  have z45 : b45.tmps.size = 81 := (e45 ▸ size_put _ _ _).trans z44
  have df45 : b45.defers = [] := by rw [e45]; exact df44
  clear q1_44 q2_44 q50_44 e45 z44 df44
  refine stepV 45 (o := ⟨some 52, Op.move (Operand.tmp 2), 24, "law.go:68", #[⟨44, Ground.guard⟩], some (44, true)⟩) (v := .pointer (some ⟨d, 0, none⟩)) (d := 52) (listed' := #[true, true, true, true, true, true, true, true, true, true, true, true, true, true, true, true, true, true, true, true, true, true, true, true, true, true, true, true, true, true, true, true, true, true, true, true, true, true, true, true, true, true, true, true, true, true, false, false, false, false, false, false, false, false, false, false, false, false, false, false, false, false, false, false, false, false, false, false, false, false, false, false, false, false, false]) (by rw [hO]; rfl) rfl hns (by rw [hO]; kernel_rfl) (by rw [hO]; kernel_rfl) (by kernel_rfl) hQ ⟨51, by rw [hO]; rfl, q51_45⟩ sS0 (fun w _ => k_move q2_45 w) ?_
  intro b46 e46
  have q1_46 := q1_45.mv e46 rfl
  have q2_46 := q2_45.mv e46 rfl
  have q51_46 := q51_45.mv e46 rfl
  have q52_46 : At b46 52 (.pointer (some ⟨d, 0, none⟩)) := e46 ▸ At.eq (by rw [z45]; decide)
  have z46 : b46.tmps.size = 81 := (e46 ▸ size_put _ _ _).trans z45
  have df46 : b46.defers = [] := by rw [e46]; exact df45
  clear q1_45 q2_45 q51_45 e46 z45 df45
  refine stepV 47 (o := ⟨some 54, Op.move (Operand.tmp 1), 35, "law.go:68", #[⟨44, Ground.guard⟩], some (44, true)⟩) (v := .pointer (some ⟨rb, 0, none⟩)) (d := 54) (listed' := #[true, true, true, true, true, true, true, true, true, true, true, true, true, true, true, true, true, true, true, true, true, true, true, true, true, true, true, true, true, true, true, true, true, true, true, true, true, true, true, true, true, true, true, true, true, true, false, true, false, false, false, false, false, false, false, false, false, false, false, false, false, false, false, false, false, false, false, false, false, false, false, false, false, false, false]) (by rw [hO]; rfl) rfl hns (by rw [hO]; kernel_rfl) (by rw [hO]; kernel_rfl) (by kernel_rfl) hQ ⟨51, by rw [hO]; rfl, q51_46⟩ sS0 (fun w _ => k_move q1_46 w) ?_
  intro b47 e47
  have q1_47 := q1_46.mv e47 rfl
  have q2_47 := q2_46.mv e47 rfl
  have q51_47 := q51_46.mv e47 rfl
  have q52_47 := q52_46.mv e47 rfl
  have q54_47 : At b47 54 (.pointer (some ⟨rb, 0, none⟩)) := e47 ▸ At.eq (by rw [z46]; decide)
  have z47 : b47.tmps.size = 81 := (e47 ▸ size_put _ _ _).trans z46
  have df47 : b47.defers = [] := by rw [e47]; exact df46
  clear q1_46 q2_46 q51_46 q52_46 e47 z46 df46
  refine stepV 48 (o := ⟨some 55, Op.nilCheck (Operand.tmp 54), 0, "law.go:68", #[⟨47, Ground.data⟩, ⟨44, Ground.guard⟩], some (44, true)⟩) (v := .pointer (some ⟨rb, 0, none⟩)) (d := 55) (listed' := #[true, true, true, true, true, true, true, true, true, true, true, true, true, true, true, true, true, true, true, true, true, true, true, true, true, true, true, true, true, true, true, true, true, true, true, true, true, true, true, true, true, true, true, true, true, true, false, true, true, false, false, false, false, false, false, false, false, false, false, false, false, false, false, false, false, false, false, false, false, false, false, false, false, false, false]) (by rw [hO]; rfl) rfl hns (by rw [hO]; kernel_rfl) (by rw [hO]; kernel_rfl) (by kernel_rfl) hQ ⟨51, by rw [hO]; rfl, q51_47⟩ sS0 (fun w _ => k_nil q54_47 w) ?_
  intro b48 e48
  have q1_48 := q1_47.mv e48 rfl
  have q2_48 := q2_47.mv e48 rfl
  have q51_48 := q51_47.mv e48 rfl
  have q52_48 := q52_47.mv e48 rfl
  have q55_48 : At b48 55 (.pointer (some ⟨rb, 0, none⟩)) := e48 ▸ At.eq (by rw [z47]; decide)
  have z48 : b48.tmps.size = 81 := (e48 ▸ size_put _ _ _).trans z47
  have df48 : b48.defers = [] := by rw [e48]; exact df47
  clear q1_47 q2_47 q51_47 q52_47 q54_47 e48 z47 df47
  refine stepV 49 (o := ⟨some 56, Op.fieldAddr 73 (Operand.tmp 55) 0, 0, "law.go:68", #[⟨48, Ground.data⟩, ⟨44, Ground.guard⟩], some (44, true)⟩) (v := .pointer (some ⟨rb, 0, none⟩)) (d := 56) (listed' := #[true, true, true, true, true, true, true, true, true, true, true, true, true, true, true, true, true, true, true, true, true, true, true, true, true, true, true, true, true, true, true, true, true, true, true, true, true, true, true, true, true, true, true, true, true, true, false, true, true, true, false, false, false, false, false, false, false, false, false, false, false, false, false, false, false, false, false, false, false, false, false, false, false, false, false]) (by rw [hO]; rfl) rfl hns (by rw [hO]; kernel_rfl) (by rw [hO]; kernel_rfl) (by kernel_rfl) hQ ⟨51, by rw [hO]; rfl, q51_48⟩ sS0 (fun w _ => k_fa0 q55_48 w) ?_
  intro b49 e49
  have q1_49 := q1_48.mv e49 rfl
  have q2_49 := q2_48.mv e49 rfl
  have q51_49 := q51_48.mv e49 rfl
  have q52_49 := q52_48.mv e49 rfl
  have q56_49 : At b49 56 (.pointer (some ⟨rb, 0, none⟩)) := e49 ▸ At.eq (by rw [z48]; decide)
  have z49 : b49.tmps.size = 81 := (e49 ▸ size_put _ _ _).trans z48
  have df49 : b49.defers = [] := by rw [e49]; exact df48
  clear q1_48 q2_48 q51_48 q52_48 q55_48 e49 z48 df48
  refine stepV 50 (o := ⟨some 57, Op.load 26 (Operand.tmp 56), 26, "law.go:68", #[⟨49, Ground.data⟩, ⟨44, Ground.guard⟩], some (44, true)⟩) (v := .pointer (some ⟨rd, 0, none⟩)) (d := 57) (listed' := #[true, true, true, true, true, true, true, true, true, true, true, true, true, true, true, true, true, true, true, true, true, true, true, true, true, true, true, true, true, true, true, true, true, true, true, true, true, true, true, true, true, true, true, true, true, true, false, true, true, true, true, false, false, false, false, false, false, false, false, false, false, false, false, false, false, false, false, false, false, false, false, false, false, false, false]) (by rw [hO]; rfl) rfl hns (by rw [hO]; kernel_rfl) (by rw [hO]; kernel_rfl) (by kernel_rfl) hQ ⟨51, by rw [hO]; rfl, q51_49⟩ sS0 (fun w h => k_ld0 q56_49 w ((C.ks _ h).1)) ?_
  intro b50 e50
  have q1_50 := q1_49.mv e50 rfl
  have q2_50 := q2_49.mv e50 rfl
  have q51_50 := q51_49.mv e50 rfl
  have q52_50 := q52_49.mv e50 rfl
  have q57_50 : At b50 57 (.pointer (some ⟨rd, 0, none⟩)) := e50 ▸ At.eq (by rw [z49]; decide)
  have z50 : b50.tmps.size = 81 := (e50 ▸ size_put _ _ _).trans z49
  have df50 : b50.defers = [] := by rw [e50]; exact df49
  clear q1_49 q2_49 q51_49 q52_49 q56_49 e50 z49 df49
  refine stepC 46 (o := ⟨some 53, Op.call { callee := Callee.value (Operand.func 27), args := #[Operand.tmp 52, Operand.const (Value.int IntKind.i64 1)], argTypes := #[24, 3] }, 9, "law.go:68", #[⟨45, Ground.data⟩, ⟨44, Ground.chain⟩, ⟨44, Ground.guard⟩], some (44, true)⟩) (d := 53) (f := 27) (args := #[.pointer (some ⟨d, 0, none⟩), .int .i64 1]) (listed' := #[true, true, true, true, true, true, true, true, true, true, true, true, true, true, true, true, true, true, true, true, true, true, true, true, true, true, true, true, true, true, true, true, true, true, true, true, true, true, true, true, true, true, true, true, true, true, true, true, true, true, true, false, false, false, false, false, false, false, false, false, false, false, false, false, false, false, false, false, false, false, false, false, false, false, false]) (by rw [hO]; rfl) rfl (by rw [hO]; kernel_rfl) (by kernel_rfl) ⟨51, by rw [hO]; rfl, q51_50⟩ (k_c1c_27 q52_50 _) ?_
  refine (C.cR1 _ sS0).mono ?_
  rintro e wR1 ⟨rfl, q⟩
  have sR1 := sS0.trans q
  refine ⟨_, rfl, sR1, ?_⟩
  intro b51 e51
  have q1_51 := q1_50.mv e51 rfl
  have q2_51 := q2_50.mv e51 rfl
  have q51_51 := q51_50.mv e51 rfl
  have q57_51 := q57_50.mv e51 rfl
  have q53_51 : At b51 53 (.string F1) := e51 ▸ At.eq (by rw [z50]; decide)
  have z51 : b51.tmps.size = 81 := (e51 ▸ size_put _ _ _).trans z50
  have df51 : b51.defers = [] := by rw [e51]; exact df50
  clear q1_50 q2_50 q51_50 q52_50 q57_50 e51 z50 df50
  exact regS2 hO hns hQ C F z51 df51 q1_51 q2_51 q51_51 q57_51 q53_51 sR1
set_option maxHeartbeats 4000000 in
theorem regS0 {Q : Exit → Act → World → Prop} {ops : Array Oper} {a : Act} {w w0 : World} {b d rb rd cr sure T : Nat} {x : Wg.St} {ar : Option Addr} {P F0 F1 KF : ByteArray} (hO : ops = litS) (hns : Region.noSelect ops = true) (hQ : ∀ c a w (d : Nat) v, Q (.panic c) (a.put (some d) v) w → Q (.panic c) a w) (C : SameC w0 b d rb rd x ar cr sure P F0 F1 KF T) (F : ∀ a' w', At a' 6 (.bool true) → a'.defers = [] → Kept w0 w' → Q .normal a' w')
    (sz : a.tmps.size = 81) (df : a.defers = []) (q0_0 : At a 0 (.pointer (some ⟨b, 0, none⟩))) (q1_0 : At a 1 (.pointer (some ⟨rb, 0, none⟩))) (q2_0 : At a 2 (.pointer (some ⟨d, 0, none⟩))) (s0 : Kept w0 w) :
    wpAnyH Tryd.prog .any ops Q (Kept w0) 75 #[false, false, false, false, false, false, false, false, false, false, false, false, false, false, false, false, false, false, false, false, false, false, false, false, false, false, false, false, false, false, false, false, false, false, false, false, false, false, false, false, false, false, false, false, false, false, false, false, false, false, false, false, false, false, false, false, false, false, false, false, false, false, false, false, false, false, false, false, false, false, false, false, false, false, false] a w := by
  refine stepV 0 (o := ⟨some 7, Op.move (Operand.tmp 0), 31, "law.go:68", #[], none⟩) (v := .pointer (some ⟨b, 0, none⟩)) (d := 7) (listed' := #[true, false, false, false, false, false, false, false, false, false, false, false, false, false, false, false, false, false, false, false, false, false, false, false, false, false, false, false, false, false, false, false, false, false, false, false, false, false, false, false, false, false, false, false, false, false, false, false, false, false, false, false, false, false, false, false, false, false, false, false, false, false, false, false, false, false, false, false, false, false, false, false, false, false, false]) (by rw [hO]; rfl) rfl hns (by rw [hO]; kernel_rfl) (by rw [hO]; kernel_rfl) (by kernel_rfl) hQ trivial s0 (fun w _ => k_move q0_0 w) ?_
  intro b1 e1
  have q0_1 := q0_0.mv e1 rfl
  have q1_1 := q1_0.mv e1 rfl
  have q2_1 := q2_0.mv e1 rfl
  have q7_1 : At b1 7 (.pointer (some ⟨b, 0, none⟩)) := e1 ▸ At.eq (by rw [sz]; decide)
  have z1 : b1.tmps.size = 81 := (e1 ▸ size_put _ _ _).trans sz
  have df1 : b1.defers = [] := by rw [e1]; exact df
  clear q0_0 q1_0 q2_0 e1 sz df
  refine stepV 2 (o := ⟨some 9, Op.move (Operand.tmp 1), 35, "law.go:68", #[], none⟩) (v := .pointer (some ⟨rb, 0, none⟩)) (d := 9) (listed' := #[true, false, true, false, false, false, false, false, false, false, false, false, false, false, false, false, false, false, false, false, false, false, false, false, false, false, false, false, false, false, false, false, false, false, false, false, false, false, false, false, false, false, false, false, false, false, false, false, false, false, false, false, false, false, false, false, false, false, false, false, false, false, false, false, false, false, false, false, false, false, false, false, false, false, false]) (by rw [hO]; rfl) rfl hns (by rw [hO]; kernel_rfl) (by rw [hO]; kernel_rfl) (by kernel_rfl) hQ trivial s0 (fun w _ => k_move q1_1 w) ?_
  intro b2 e2
  have q0_2 := q0_1.mv e2 rfl
  have q1_2 := q1_1.mv e2 rfl
  have q2_2 := q2_1.mv e2 rfl
  have q7_2 := q7_1.mv e2 rfl
  have q9_2 : At b2 9 (.pointer (some ⟨rb, 0, none⟩)) := e2 ▸ At.eq (by rw [z1]; decide)
  have z2 : b2.tmps.size = 81 := (e2 ▸ size_put _ _ _).trans z1
  have df2 : b2.defers = [] := by rw [e2]; exact df1
  clear q0_1 q1_1 q2_1 q7_1 e2 z1 df1
  refine stepV 3 (o := ⟨some 10, Op.nilCheck (Operand.tmp 9), 0, "law.go:68", #[⟨2, Ground.data⟩], none⟩) (v := .pointer (some ⟨rb, 0, none⟩)) (d := 10) (listed' := #[true, false, true, true, false, false, false, false, false, false, false, false, false, false, false, false, false, false, false, false, false, false, false, false, false, false, false, false, false, false, false, false, false, false, false, false, false, false, false, false, false, false, false, false, false, false, false, false, false, false, false, false, false, false, false, false, false, false, false, false, false, false, false, false, false, false, false, false, false, false, false, false, false, false, false]) (by rw [hO]; rfl) rfl hns (by rw [hO]; kernel_rfl) (by rw [hO]; kernel_rfl) (by kernel_rfl) hQ trivial s0 (fun w _ => k_nil q9_2 w) ?_
  intro b3 e3
  have q0_3 := q0_2.mv e3 rfl
  have q1_3 := q1_2.mv e3 rfl
  have q2_3 := q2_2.mv e3 rfl
  have q7_3 := q7_2.mv e3 rfl
  have q10_3 : At b3 10 (.pointer (some ⟨rb, 0, none⟩)) := e3 ▸ At.eq (by rw [z2]; decide)
  have z3 : b3.tmps.size = 81 := (e3 ▸ size_put _ _ _).trans z2
  have df3 : b3.defers = [] := by rw [e3]; exact df2
  clear q0_2 q1_2 q2_2 q7_2 q9_2 e3 z2 df2
  refine stepV 4 (o := ⟨some 11, Op.fieldAddr 73 (Operand.tmp 10) 2, 0, "law.go:68", #[⟨3, Ground.data⟩], none⟩) (v := .pointer (some ⟨rb, 2, none⟩)) (d := 11) (listed' := #[true, false, true, true, true, false, false, false, false, false, false, false, false, false, false, false, false, false, false, false, false, false, false, false, false, false, false, false, false, false, false, false, false, false, false, false, false, false, false, false, false, false, false, false, false, false, false, false, false, false, false, false, false, false, false, false, false, false, false, false, false, false, false, false, false, false, false, false, false, false, false, false, false, false, false]) (by rw [hO]; rfl) rfl hns (by rw [hO]; kernel_rfl) (by rw [hO]; kernel_rfl) (by kernel_rfl) hQ trivial s0 (fun w _ => k_fa2 q10_3 w) ?_
  intro b4 e4
  have q0_4 := q0_3.mv e4 rfl
  have q1_4 := q1_3.mv e4 rfl
  have q2_4 := q2_3.mv e4 rfl
  have q7_4 := q7_3.mv e4 rfl
  have q11_4 : At b4 11 (.pointer (some ⟨rb, 2, none⟩)) := e4 ▸ At.eq (by rw [z3]; decide)
  have z4 : b4.tmps.size = 81 := (e4 ▸ size_put _ _ _).trans z3
  have df4 : b4.defers = [] := by rw [e4]; exact df3
  clear q0_3 q1_3 q2_3 q7_3 q10_3 e4 z3 df3
  refine stepV 5 (o := ⟨some 12, Op.load 9 (Operand.tmp 11), 9, "law.go:68", #[⟨4, Ground.data⟩], none⟩) (v := .string P) (d := 12) (listed' := #[true, false, true, true, true, true, false, false, false, false, false, false, false, false, false, false, false, false, false, false, false, false, false, false, false, false, false, false, false, false, false, false, false, false, false, false, false, false, false, false, false, false, false, false, false, false, false, false, false, false, false, false, false, false, false, false, false, false, false, false, false, false, false, false, false, false, false, false, false, false, false, false, false, false, false]) (by rw [hO]; rfl) rfl hns (by rw [hO]; kernel_rfl) (by rw [hO]; kernel_rfl) (by kernel_rfl) hQ trivial s0 (fun w h => k_ld2 q11_4 w ((C.ks _ h).2.2.1)) ?_
  intro b5 e5
  have q0_5 := q0_4.mv e5 rfl
  have q1_5 := q1_4.mv e5 rfl
  have q2_5 := q2_4.mv e5 rfl
  have q7_5 := q7_4.mv e5 rfl
  have q12_5 : At b5 12 (.string P) := e5 ▸ At.eq (by rw [z4]; decide)
  have z5 : b5.tmps.size = 81 := (e5 ▸ size_put _ _ _).trans z4
  have df5 : b5.defers = [] := by rw [e5]; exact df4
  clear q0_4 q1_4 q2_4 q7_4 q11_4 e5 z4 df4
  refine stepC 1 (o := ⟨some 8, Op.call { callee := Callee.value (Operand.func 31), args := #[Operand.tmp 7], argTypes := #[31] }, 9, "law.go:68", #[⟨0, Ground.data⟩], none⟩) (d := 8) (f := 31) (args := #[.pointer (some ⟨b, 0, none⟩)]) (listed' := #[true, true, true, true, true, true, false, false, false, false, false, false, false, false, false, false, false, false, false, false, false, false, false, false, false, false, false, false, false, false, false, false, false, false, false, false, false, false, false, false, false, false, false, false, false, false, false, false, false, false, false, false, false, false, false, false, false, false, false, false, false, false, false, false, false, false, false, false, false, false, false, false, false, false, false]) (by rw [hO]; rfl) rfl (by rw [hO]; kernel_rfl) (by kernel_rfl) trivial (k_c1_31 q7_5 _) ?_
  refine (C.cState _ s0).mono ?_
  rintro e wState ⟨rfl, q⟩
  have sState := s0.trans q
  refine ⟨_, rfl, sState, ?_⟩
  intro b6 e6
  have q0_6 := q0_5.mv e6 rfl
  have q1_6 := q1_5.mv e6 rfl
  have q2_6 := q2_5.mv e6 rfl
  have q12_6 := q12_5.mv e6 rfl
  have q8_6 : At b6 8 (.string P) := e6 ▸ At.eq (by rw [z5]; decide)
  have z6 : b6.tmps.size = 81 := (e6 ▸ size_put _ _ _).trans z5
  have df6 : b6.defers = [] := by rw [e6]; exact df5
  clear q0_5 q1_5 q2_5 q7_5 q12_5 e6 z5 df5
  refine stepV 6 (o := ⟨some 13, Op.binOp BinOp.eql 9 (Operand.tmp 8) (Operand.tmp 12) 9, 4, "law.go:68", #[⟨1, Ground.data⟩, ⟨5, Ground.data⟩], none⟩) (v := .bool true) (d := 13) (listed' := #[true, true, true, true, true, true, true, false, false, false, false, false, false, false, false, false, false, false, false, false, false, false, false, false, false, false, false, false, false, false, false, false, false, false, false, false, false, false, false, false, false, false, false, false, false, false, false, false, false, false, false, false, false, false, false, false, false, false, false, false, false, false, false, false, false, false, false, false, false, false, false, false, false, false, false]) (by rw [hO]; rfl) rfl hns (by rw [hO]; kernel_rfl) (by rw [hO]; kernel_rfl) (by kernel_rfl) hQ trivial sState (fun w _ => k_eqs q8_6 q12_6 w) ?_
  intro b7 e7
  have q0_7 := q0_6.mv e7 rfl
  have q1_7 := q1_6.mv e7 rfl
  have q2_7 := q2_6.mv e7 rfl
  have q13_7 : At b7 13 (.bool true) := e7 ▸ At.eq (by rw [z6]; decide)
  have z7 : b7.tmps.size = 81 := (e7 ▸ size_put _ _ _).trans z6
  have df7 : b7.defers = [] := by rw [e7]; exact df6
  clear q0_6 q1_6 q2_6 q12_6 q8_6 e7 z6 df6
  refine stepV 7 (o := ⟨some 14, Op.move (Operand.tmp 13), 4, "law.go:68", #[⟨6, Ground.data⟩, ⟨1, Ground.chain⟩], none⟩) (v := .bool true) (d := 14) (listed' := #[true, true, true, true, true, true, true, true, false, false, false, false, false, false, false, false, false, false, false, false, false, false, false, false, false, false, false, false, false, false, false, false, false, false, false, false, false, false, false, false, false, false, false, false, false, false, false, false, false, false, false, false, false, false, false, false, false, false, false, false, false, false, false, false, false, false, false, false, false, false, false, false, false, false, false]) (by rw [hO]; rfl) rfl hns (by rw [hO]; kernel_rfl) (by rw [hO]; kernel_rfl) (by kernel_rfl) hQ trivial sState (fun w _ => k_move q13_7 w) ?_
  intro b8 e8
  have q0_8 := q0_7.mv e8 rfl
  have q1_8 := q1_7.mv e8 rfl
  have q2_8 := q2_7.mv e8 rfl
  have q14_8 : At b8 14 (.bool true) := e8 ▸ At.eq (by rw [z7]; decide)
  have z8 : b8.tmps.size = 81 := (e8 ▸ size_put _ _ _).trans z7
  have df8 : b8.defers = [] := by rw [e8]; exact df7
  clear q0_7 q1_7 q2_7 q13_7 e8 z7 df7
  refine stepV 8 (o := ⟨some 15, Op.move (Operand.tmp 0), 31, "law.go:68", #[⟨7, Ground.guard⟩], some (7, true)⟩) (v := .pointer (some ⟨b, 0, none⟩)) (d := 15) (listed' := #[true, true, true, true, true, true, true, true, true, false, false, false, false, false, false, false, false, false, false, false, false, false, false, false, false, false, false, false, false, false, false, false, false, false, false, false, false, false, false, false, false, false, false, false, false, false, false, false, false, false, false, false, false, false, false, false, false, false, false, false, false, false, false, false, false, false, false, false, false, false, false, false, false, false, false]) (by rw [hO]; rfl) rfl hns (by rw [hO]; kernel_rfl) (by rw [hO]; kernel_rfl) (by kernel_rfl) hQ ⟨14, by rw [hO]; rfl, q14_8⟩ sState (fun w _ => k_move q0_8 w) ?_
  intro b9 e9
  have q0_9 := q0_8.mv e9 rfl
  have q1_9 := q1_8.mv e9 rfl
  have q2_9 := q2_8.mv e9 rfl
  have q14_9 := q14_8.mv e9 rfl
  have q15_9 : At b9 15 (.pointer (some ⟨b, 0, none⟩)) := e9 ▸ At.eq (by rw [z8]; decide)
  have z9 : b9.tmps.size = 81 := (e9 ▸ size_put _ _ _).trans z8
  have df9 : b9.defers = [] := by rw [e9]; exact df8
  clear q0_8 q1_8 q2_8 q14_8 e9 z8 df8
  refine stepV 10 (o := ⟨some 17, Op.move (Operand.tmp 1), 35, "law.go:68", #[⟨7, Ground.guard⟩], some (7, true)⟩) (v := .pointer (some ⟨rb, 0, none⟩)) (d := 17) (listed' := #[true, true, true, true, true, true, true, true, true, false, true, false, false, false, false, false, false, false, false, false, false, false, false, false, false, false, false, false, false, false, false, false, false, false, false, false, false, false, false, false, false, false, false, false, false, false, false, false, false, false, false, false, false, false, false, false, false, false, false, false, false, false, false, false, false, false, false, false, false, false, false, false, false, false, false]) (by rw [hO]; rfl) rfl hns (by rw [hO]; kernel_rfl) (by rw [hO]; kernel_rfl) (by kernel_rfl) hQ ⟨14, by rw [hO]; rfl, q14_9⟩ sState (fun w _ => k_move q1_9 w) ?_
  intro b10 e10
  have q0_10 := q0_9.mv e10 rfl
  have q1_10 := q1_9.mv e10 rfl
  have q2_10 := q2_9.mv e10 rfl
  have q14_10 := q14_9.mv e10 rfl
  have q15_10 := q15_9.mv e10 rfl
  have q17_10 : At b10 17 (.pointer (some ⟨rb, 0, none⟩)) := e10 ▸ At.eq (by rw [z9]; decide)
  have z10 : b10.tmps.size = 81 := (e10 ▸ size_put _ _ _).trans z9
  have df10 : b10.defers = [] := by rw [e10]; exact df9
  clear q0_9 q1_9 q2_9 q14_9 q15_9 e10 z9 df9
  refine stepV 11 (o := ⟨some 18, Op.nilCheck (Operand.tmp 17), 0, "law.go:68", #[⟨10, Ground.data⟩, ⟨7, Ground.guard⟩], some (7, true)⟩) (v := .pointer (some ⟨rb, 0, none⟩)) (d := 18) (listed' := #[true, true, true, true, true, true, true, true, true, false, true, true, false, false, false, false, false, false, false, false, false, false, false, false, false, false, false, false, false, false, false, false, false, false, false, false, false, false, false, false, false, false, false, false, false, false, false, false, false, false, false, false, false, false, false, false, false, false, false, false, false, false, false, false, false, false, false, false, false, false, false, false, false, false, false]) (by rw [hO]; rfl) rfl hns (by rw [hO]; kernel_rfl) (by rw [hO]; kernel_rfl) (by kernel_rfl) hQ ⟨14, by rw [hO]; rfl, q14_10⟩ sState (fun w _ => k_nil q17_10 w) ?_
  intro b11 e11
  have q0_11 := q0_10.mv e11 rfl
  have q1_11 := q1_10.mv e11 rfl
  have q2_11 := q2_10.mv e11 rfl
  have q14_11 := q14_10.mv e11 rfl
  have q15_11 := q15_10.mv e11 rfl
  have q18_11 : At b11 18 (.pointer (some ⟨rb, 0, none⟩)) := e11 ▸ At.eq (by rw [z10]; decide)
  have z11 : b11.tmps.size = 81 := (e11 ▸ size_put _ _ _).trans z10
  have df11 : b11.defers = [] := by rw [e11]; exact df10
  clear q0_10 q1_10 q2_10 q14_10 q15_10 q17_10 e11 z10 df10
  refine stepV 12 (o := ⟨some 19, Op.fieldAddr 73 (Operand.tmp 18) 3, 0, "law.go:68", #[⟨11, Ground.data⟩, ⟨7, Ground.guard⟩], some (7, true)⟩) (v := .pointer (some ⟨rb, 3, none⟩)) (d := 19) (listed' := #[true, true, true, true, true, true, true, true, true, false, true, true, true, false, false, false, false, false, false, false, false, false, false, false, false, false, false, false, false, false, false, false, false, false, false, false, false, false, false, false, false, false, false, false, false, false, false, false, false, false, false, false, false, false, false, false, false, false, false, false, false, false, false, false, false, false, false, false, false, false, false, false, false, false, false]) (by rw [hO]; rfl) rfl hns (by rw [hO]; kernel_rfl) (by rw [hO]; kernel_rfl) (by kernel_rfl) hQ ⟨14, by rw [hO]; rfl, q14_11⟩ sState (fun w _ => k_fa3 q18_11 w) ?_
  intro b12 e12
  have q0_12 := q0_11.mv e12 rfl
  have q1_12 := q1_11.mv e12 rfl
  have q2_12 := q2_11.mv e12 rfl
  have q14_12 := q14_11.mv e12 rfl
  have q15_12 := q15_11.mv e12 rfl
  have q19_12 : At b12 19 (.pointer (some ⟨rb, 3, none⟩)) := e12 ▸ At.eq (by rw [z11]; decide)
  have z12 : b12.tmps.size = 81 := (e12 ▸ size_put _ _ _).trans z11
  have df12 : b12.defers = [] := by rw [e12]; exact df11
  clear q0_11 q1_11 q2_11 q14_11 q15_11 q18_11 e12 z11 df11
  refine stepV 13 (o := ⟨some 20, Op.load 49 (Operand.tmp 19), 49, "law.go:68", #[⟨12, Ground.data⟩, ⟨7, Ground.guard⟩], some (7, true)⟩) (v := .slice ar x.l.length cr) (d := 20) (listed' := #[true, true, true, true, true, true, true, true, true, false, true, true, true, true, false, false, false, false, false, false, false, false, false, false, false, false, false, false, false, false, false, false, false, false, false, false, false, false, false, false, false, false, false, false, false, false, false, false, false, false, false, false, false, false, false, false, false, false, false, false, false, false, false, false, false, false, false, false, false, false, false, false, false, false, false]) (by rw [hO]; rfl) rfl hns (by rw [hO]; kernel_rfl) (by rw [hO]; kernel_rfl) (by kernel_rfl) hQ ⟨14, by rw [hO]; rfl, q14_12⟩ sState (fun w h => k_ld3 q19_12 w ((C.ks _ h).2.2.2.1)) ?_
  intro b13 e13
  have q0_13 := q0_12.mv e13 rfl
  have q1_13 := q1_12.mv e13 rfl
  have q2_13 := q2_12.mv e13 rfl
  have q14_13 := q14_12.mv e13 rfl
  have q15_13 := q15_12.mv e13 rfl
  have q20_13 : At b13 20 (.slice ar x.l.length cr) := e13 ▸ At.eq (by rw [z12]; decide)
  have z13 : b13.tmps.size = 81 := (e13 ▸ size_put _ _ _).trans z12
  have df13 : b13.defers = [] := by rw [e13]; exact df12
  clear q0_12 q1_12 q2_12 q14_12 q15_12 q19_12 e13 z12 df12
  refine stepC 9 (o := ⟨some 16, Op.call { callee := Callee.value (Operand.func 32), args := #[Operand.tmp 15], argTypes := #[31] }, 49, "law.go:68", #[⟨8, Ground.data⟩, ⟨7, Ground.chain⟩, ⟨7, Ground.guard⟩], some (7, true)⟩) (d := 16) (f := 32) (args := #[.pointer (some ⟨b, 0, none⟩)]) (listed' := #[true, true, true, true, true, true, true, true, true, true, true, true, true, true, false, false, false, false, false, false, false, false, false, false, false, false, false, false, false, false, false, false, false, false, false, false, false, false, false, false, false, false, false, false, false, false, false, false, false, false, false, false, false, false, false, false, false, false, false, false, false, false, false, false, false, false, false, false, false, false, false, false, false, false, false]) (by rw [hO]; rfl) rfl (by rw [hO]; kernel_rfl) (by kernel_rfl) ⟨14, by rw [hO]; rfl, q14_13⟩ (k_c1_32 q15_13 _) ?_
  refine (C.rec_ _ sState).mono ?_
  rintro e wRec ⟨vR, rfl, rR, q⟩
  obtain ⟨aR, cR, rfl⟩ := rR.form
  have sRec := sState.trans q
  refine ⟨_, rfl, sRec, ?_⟩
  intro b14 e14
  have q0_14 := q0_13.mv e14 rfl
  have q1_14 := q1_13.mv e14 rfl
  have q2_14 := q2_13.mv e14 rfl
  have q14_14 := q14_13.mv e14 rfl
  have q20_14 := q20_13.mv e14 rfl
  have q16_14 : At b14 16 (.slice aR x.l.length cR) := e14 ▸ At.eq (by rw [z13]; decide)
  have z14 : b14.tmps.size = 81 := (e14 ▸ size_put _ _ _).trans z13
  have df14 : b14.defers = [] := by rw [e14]; exact df13
  clear q0_13 q1_13 q2_13 q14_13 q15_13 q20_13 e14 z13 df13
  refine stepC 14 (o := ⟨some 21, Op.call { callee := Callee.value (Operand.func 33), args := #[Operand.tmp 16, Operand.tmp 20], argTypes := #[49, 49] }, 4, "law.go:68", #[⟨9, Ground.data⟩, ⟨13, Ground.data⟩, ⟨9, Ground.chain⟩, ⟨7, Ground.guard⟩], some (7, true)⟩) (d := 21) (f := 33) (args := #[.slice aR x.l.length cR, .slice ar x.l.length cr]) (listed' := #[true, true, true, true, true, true, true, true, true, true, true, true, true, true, true, false, false, false, false, false, false, false, false, false, false, false, false, false, false, false, false, false, false, false, false, false, false, false, false, false, false, false, false, false, false, false, false, false, false, false, false, false, false, false, false, false, false, false, false, false, false, false, false, false, false, false, false, false, false, false, false, false, false, false, false]) (by rw [hO]; rfl) rfl (by rw [hO]; kernel_rfl) (by kernel_rfl) ⟨14, by rw [hO]; rfl, q14_14⟩ (k_c2_33 q16_14 q20_14 _) ?_
  refine (same_any _ _ x.l x.l _ rR.strs (C.row _ sRec)).mono ?_
  rintro e wSame ⟨rfl, q⟩
  rw [show (x.l == x.l) = true by simp]
  have sSame := sRec.trans q
  refine ⟨_, rfl, sSame, ?_⟩
  intro b15 e15
  have q0_15 := q0_14.mv e15 rfl
  have q1_15 := q1_14.mv e15 rfl
  have q2_15 := q2_14.mv e15 rfl
  have q14_15 := q14_14.mv e15 rfl
  have q21_15 : At b15 21 (.bool true) := e15 ▸ At.eq (by rw [z14]; decide)
  have z15 : b15.tmps.size = 81 := (e15 ▸ size_put _ _ _).trans z14
  have df15 : b15.defers = [] := by rw [e15]; exact df14
  clear q0_14 q1_14 q2_14 q14_14 q20_14 q16_14 e15 z14 df14
  refine stepV 15 (o := ⟨some 22, Op.pick (Operand.tmp 14) (Operand.tmp 21) (Operand.const (Value.bool false)), 4, "law.go:68", #[⟨7, Ground.data⟩, ⟨14, Ground.data⟩], none⟩) (v := .bool true) (d := 22) (listed' := #[true, true, true, true, true, true, true, true, true, true, true, true, true, true, true, true, false, false, false, false, false, false, false, false, false, false, false, false, false, false, false, false, false, false, false, false, false, false, false, false, false, false, false, false, false, false, false, false, false, false, false, false, false, false, false, false, false, false, false, false, false, false, false, false, false, false, false, false, false, false, false, false, false, false, false]) (by rw [hO]; rfl) rfl hns (by rw [hO]; kernel_rfl) (by rw [hO]; kernel_rfl) (by kernel_rfl) hQ trivial sSame (fun w _ => k_pick q14_15 q21_15 w) ?_
  intro b16 e16
  have q0_16 := q0_15.mv e16 rfl
  have q1_16 := q1_15.mv e16 rfl
  have q2_16 := q2_15.mv e16 rfl
  have q22_16 : At b16 22 (.bool true) := e16 ▸ At.eq (by rw [z15]; decide)
  have z16 : b16.tmps.size = 81 := (e16 ▸ size_put _ _ _).trans z15
  have df16 : b16.defers = [] := by rw [e16]; exact df15
  clear q0_15 q1_15 q2_15 q14_15 q21_15 e16 z15 df15
  refine stepV 16 (o := ⟨some 23, Op.move (Operand.tmp 22), 4, "law.go:68", #[⟨15, Ground.data⟩, ⟨14, Ground.chain⟩], none⟩) (v := .bool true) (d := 23) (listed' := #[true, true, true, true, true, true, true, true, true, true, true, true, true, true, true, true, true, false, false, false, false, false, false, false, false, false, false, false, false, false, false, false, false, false, false, false, false, false, false, false, false, false, false, false, false, false, false, false, false, false, false, false, false, false, false, false, false, false, false, false, false, false, false, false, false, false, false, false, false, false, false, false, false, false, false]) (by rw [hO]; rfl) rfl hns (by rw [hO]; kernel_rfl) (by rw [hO]; kernel_rfl) (by kernel_rfl) hQ trivial sSame (fun w _ => k_move q22_16 w) ?_
  intro b17 e17
  have q0_17 := q0_16.mv e17 rfl
  have q1_17 := q1_16.mv e17 rfl
  have q2_17 := q2_16.mv e17 rfl
  have q23_17 : At b17 23 (.bool true) := e17 ▸ At.eq (by rw [z16]; decide)
  have z17 : b17.tmps.size = 81 := (e17 ▸ size_put _ _ _).trans z16
  have df17 : b17.defers = [] := by rw [e17]; exact df16
  clear q0_16 q1_16 q2_16 q22_16 e17 z16 df16
  refine stepV 17 (o := ⟨some 24, Op.move (Operand.tmp 0), 31, "law.go:68", #[⟨16, Ground.guard⟩], some (16, true)⟩) (v := .pointer (some ⟨b, 0, none⟩)) (d := 24) (listed' := #[true, true, true, true, true, true, true, true, true, true, true, true, true, true, true, true, true, true, false, false, false, false, false, false, false, false, false, false, false, false, false, false, false, false, false, false, false, false, false, false, false, false, false, false, false, false, false, false, false, false, false, false, false, false, false, false, false, false, false, false, false, false, false, false, false, false, false, false, false, false, false, false, false, false, false]) (by rw [hO]; rfl) rfl hns (by rw [hO]; kernel_rfl) (by rw [hO]; kernel_rfl) (by kernel_rfl) hQ ⟨23, by rw [hO]; rfl, q23_17⟩ sSame (fun w _ => k_move q0_17 w) ?_
  intro b18 e18
  have q0_18 := q0_17.mv e18 rfl
  have q1_18 := q1_17.mv e18 rfl
  have q2_18 := q2_17.mv e18 rfl
  have q23_18 := q23_17.mv e18 rfl
  have q24_18 : At b18 24 (.pointer (some ⟨b, 0, none⟩)) := e18 ▸ At.eq (by rw [z17]; decide)
  have z18 : b18.tmps.size = 81 := (e18 ▸ size_put _ _ _).trans z17
  have df18 : b18.defers = [] := by rw [e18]; exact df17
  clear q0_17 q1_17 q2_17 q23_17 e18 z17 df17
  refine stepV 19 (o := ⟨some 26, Op.move (Operand.tmp 1), 35, "law.go:68", #[⟨16, Ground.guard⟩], some (16, true)⟩) (v := .pointer (some ⟨rb, 0, none⟩)) (d := 26) (listed' := #[true, true, true, true, true, true, true, true, true, true, true, true, true, true, true, true, true, true, false, true, false, false, false, false, false, false, false, false, false, false, false, false, false, false, false, false, false, false, false, false, false, false, false, false, false, false, false, false, false, false, false, false, false, false, false, false, false, false, false, false, false, false, false, false, false, false, false, false, false, false, false, false, false, false, false]) (by rw [hO]; rfl) rfl hns (by rw [hO]; kernel_rfl) (by rw [hO]; kernel_rfl) (by kernel_rfl) hQ ⟨23, by rw [hO]; rfl, q23_18⟩ sSame (fun w _ => k_move q1_18 w) ?_
  intro b19 e19
  have q0_19 := q0_18.mv e19 rfl
  have q1_19 := q1_18.mv e19 rfl
  have q2_19 := q2_18.mv e19 rfl
  have q23_19 := q23_18.mv e19 rfl
  have q24_19 := q24_18.mv e19 rfl
  have q26_19 : At b19 26 (.pointer (some ⟨rb, 0, none⟩)) := e19 ▸ At.eq (by rw [z18]; decide)
  have z19 : b19.tmps.size = 81 := (e19 ▸ size_put _ _ _).trans z18
  have df19 : b19.defers = [] := by rw [e19]; exact df18
  clear q0_18 q1_18 q2_18 q23_18 q24_18 e19 z18 df18
  refine stepV 20 (o := ⟨some 27, Op.nilCheck (Operand.tmp 26), 0, "law.go:68", #[⟨19, Ground.data⟩, ⟨16, Ground.guard⟩], some (16, true)⟩) (v := .pointer (some ⟨rb, 0, none⟩)) (d := 27) (listed' := #[true, true, true, true, true, true, true, true, true, true, true, true, true, true, true, true, true, true, false, true, true, false, false, false, false, false, false, false, false, false, false, false, false, false, false, false, false, false, false, false, false, false, false, false, false, false, false, false, false, false, false, false, false, false, false, false, false, false, false, false, false, false, false, false, false, false, false, false, false, false, false, false, false, false, false]) (by rw [hO]; rfl) rfl hns (by rw [hO]; kernel_rfl) (by rw [hO]; kernel_rfl) (by kernel_rfl) hQ ⟨23, by rw [hO]; rfl, q23_19⟩ sSame (fun w _ => k_nil q26_19 w) ?_
  intro b20 e20
  have q0_20 := q0_19.mv e20 rfl
  have q1_20 := q1_19.mv e20 rfl
  have q2_20 := q2_19.mv e20 rfl
  have q23_20 := q23_19.mv e20 rfl
  have q24_20 := q24_19.mv e20 rfl
  have q27_20 : At b20 27 (.pointer (some ⟨rb, 0, none⟩)) := e20 ▸ At.eq (by rw [z19]; decide)
  have z20 : b20.tmps.size = 81 := (e20 ▸ size_put _ _ _).trans z19
  have df20 : b20.defers = [] := by rw [e20]; exact df19
  clear q0_19 q1_19 q2_19 q23_19 q24_19 q26_19 e20 z19 df19
  refine stepV 21 (o := ⟨some 28, Op.fieldAddr 73 (Operand.tmp 27) 4, 0, "law.go:68", #[⟨20, Ground.data⟩, ⟨16, Ground.guard⟩], some (16, true)⟩) (v := .pointer (some ⟨rb, 4, none⟩)) (d := 28) (listed' := #[true, true, true, true, true, true, true, true, true, true, true, true, true, true, true, true, true, true, false, true, true, true, false, false, false, false, false, false, false, false, false, false, false, false, false, false, false, false, false, false, false, false, false, false, false, false, false, false, false, false, false, false, false, false, false, false, false, false, false, false, false, false, false, false, false, false, false, false, false, false, false, false, false, false, false]) (by rw [hO]; rfl) rfl hns (by rw [hO]; kernel_rfl) (by rw [hO]; kernel_rfl) (by kernel_rfl) hQ ⟨23, by rw [hO]; rfl, q23_20⟩ sSame (fun w _ => k_fa4 q27_20 w) ?_
  intro b21 e21
  have q0_21 := q0_20.mv e21 rfl
  have q1_21 := q1_20.mv e21 rfl
  have q2_21 := q2_20.mv e21 rfl
  have q23_21 := q23_20.mv e21 rfl
  have q24_21 := q24_20.mv e21 rfl
  have q28_21 : At b21 28 (.pointer (some ⟨rb, 4, none⟩)) := e21 ▸ At.eq (by rw [z20]; decide)
  have z21 : b21.tmps.size = 81 := (e21 ▸ size_put _ _ _).trans z20
  have df21 : b21.defers = [] := by rw [e21]; exact df20
  clear q0_20 q1_20 q2_20 q23_20 q24_20 q27_20 e21 z20 df20
  refine stepV 22 (o := ⟨some 29, Op.load 3 (Operand.tmp 28), 3, "law.go:68", #[⟨21, Ground.data⟩, ⟨16, Ground.guard⟩], some (16, true)⟩) (v := .int .i64 sure) (d := 29) (listed' := #[true, true, true, true, true, true, true, true, true, true, true, true, true, true, true, true, true, true, false, true, true, true, true, false, false, false, false, false, false, false, false, false, false, false, false, false, false, false, false, false, false, false, false, false, false, false, false, false, false, false, false, false, false, false, false, false, false, false, false, false, false, false, false, false, false, false, false, false, false, false, false, false, false, false, false]) (by rw [hO]; rfl) rfl hns (by rw [hO]; kernel_rfl) (by rw [hO]; kernel_rfl) (by kernel_rfl) hQ ⟨23, by rw [hO]; rfl, q23_21⟩ sSame (fun w h => k_ld4 q28_21 w ((C.ks _ h).2.2.2.2)) ?_
  intro b22 e22
  have q0_22 := q0_21.mv e22 rfl
  have q1_22 := q1_21.mv e22 rfl
  have q2_22 := q2_21.mv e22 rfl
  have q23_22 := q23_21.mv e22 rfl
  have q24_22 := q24_21.mv e22 rfl
  have q29_22 : At b22 29 (.int .i64 sure) := e22 ▸ At.eq (by rw [z21]; decide)
  have z22 : b22.tmps.size = 81 := (e22 ▸ size_put _ _ _).trans z21
  have df22 : b22.defers = [] := by rw [e22]; exact df21
  clear q0_21 q1_21 q2_21 q23_21 q24_21 q28_21 e22 z21 df21
  refine stepC 18 (o := ⟨some 25, Op.call { callee := Callee.value (Operand.func 34), args := #[Operand.tmp 24], argTypes := #[31] }, 3, "law.go:68", #[⟨17, Ground.data⟩, ⟨16, Ground.chain⟩, ⟨16, Ground.guard⟩], some (16, true)⟩) (d := 25) (f := 34) (args := #[.pointer (some ⟨b, 0, none⟩)]) (listed' := #[true, true, true, true, true, true, true, true, true, true, true, true, true, true, true, true, true, true, true, true, true, true, true, false, false, false, false, false, false, false, false, false, false, false, false, false, false, false, false, false, false, false, false, false, false, false, false, false, false, false, false, false, false, false, false, false, false, false, false, false, false, false, false, false, false, false, false, false, false, false, false, false, false, false, false]) (by rw [hO]; rfl) rfl (by rw [hO]; kernel_rfl) (by kernel_rfl) ⟨23, by rw [hO]; rfl, q23_22⟩ (k_c1_34 q24_22 _) ?_
  refine (C.cSure _ sSame).mono ?_
  rintro e wSure ⟨rfl, q⟩
  have sSure := sSame.trans q
  refine ⟨_, rfl, sSure, ?_⟩
  intro b23 e23
  have q0_23 := q0_22.mv e23 rfl
  have q1_23 := q1_22.mv e23 rfl
  have q2_23 := q2_22.mv e23 rfl
  have q23_23 := q23_22.mv e23 rfl
  have q29_23 := q29_22.mv e23 rfl
  have q25_23 : At b23 25 (.int .i64 sure) := e23 ▸ At.eq (by rw [z22]; decide)
  have z23 : b23.tmps.size = 81 := (e23 ▸ size_put _ _ _).trans z22
  have df23 : b23.defers = [] := by rw [e23]; exact df22
  clear q0_22 q1_22 q2_22 q23_22 q24_22 q29_22 e23 z22 df22
  exact regS1 hO hns hQ C F z23 df23 q0_23 q1_23 q2_23 q23_23 q29_23 q25_23 sSure
theorem regS {Q : Exit → Act → World → Prop} {ops : Array Oper} {a : Act} {w w0 : World} {b d rb rd cr sure T : Nat} {x : Wg.St} {ar : Option Addr} {P F0 F1 KF : ByteArray} (hO : ops = litS) (hQ : ∀ c a w (d : Nat) v, Q (.panic c) (a.put (some d) v) w → Q (.panic c) a w) (C : SameC w0 b d rb rd x ar cr sure P F0 F1 KF T) (F : ∀ a' w', At a' 6 (.bool true) → a'.defers = [] → Kept w0 w' → Q .normal a' w') (id : Nat)
    (sz : a.tmps.size = 81) (df : a.defers = []) (q0_0 : At a 0 (.pointer (some ⟨b, 0, none⟩))) (q1_0 : At a 1 (.pointer (some ⟨rb, 0, none⟩))) (q2_0 : At a 2 (.pointer (some ⟨d, 0, none⟩))) (s0 : Kept w0 w.drew) : (Code.region id ops true).wp Tryd.prog Q a w := by
  have hns : Region.noSelect ops = true := by rw [hO]; kernel_rfl
  refine wp_region_held (S := Kept w0) (by kernel_rfl) ?_
  rw [show ops.size = 75 by rw [hO]; rfl]
  exact regS0 hO hns hQ C F sz df q0_0 q1_0 q2_0 s0
end Go.Proofs.YtenhncohhikllaaDoor
