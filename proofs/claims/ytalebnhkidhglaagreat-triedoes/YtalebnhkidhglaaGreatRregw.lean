/-
  The great region of the law TrieDoes, walked by hand (this text is written by program out of the region's operations).
-/
import Derived.Test.YtalebnhkidhglaaGreatRregl
namespace Go.Proofs.YtalebnhkidhglaaGreat
open Go.ChangeShapes Go.WideShapes Go.ChangeAt Go.RowKit

theorem At.mv {a a' : Act} {n d : Nat} {v u : Value} (h : At a n v) (e : a' = a.put (some d) u) (hd : Nat.beq d n = false) : At a' n v := by
  subst e
  exact h.ne (Nat.ne_of_beq_eq_false hd)
/-- the script's cells of this round -/
def Cells (g k : Nat) (oF : ByteArray) (oI : Int) (oT : ByteArray) (w : World) : Prop :=
  w.cell? ⟨g, k * 4 + 1, none⟩ = some (.string oF) ∧ w.cell? ⟨g, k * 4 + 2, none⟩ = some (.int .i64 oI) ∧ w.cell? ⟨g, k * 4 + 3, none⟩ = some (.string oT)
def lit18 : Array Oper := #[
  ⟨some 76, Op.move (Operand.tmp 8), 3, "law.go:107", #[], none⟩,
  ⟨some 77, Op.move (Operand.tmp 10), 3, "law.go:107", #[], none⟩,
  ⟨some 78, Op.binOp BinOp.neq 3 (Operand.tmp 76) (Operand.tmp 77) 3, 4, "law.go:107", #[⟨0, Ground.data⟩, ⟨1, Ground.data⟩], none⟩,
  ⟨some 79, Op.move (Operand.tmp 78), 4, "law.go:107", #[⟨2, Ground.data⟩], none⟩,
  ⟨some 80, Op.move (Operand.tmp 9), 32, "law.go:107", #[⟨3, Ground.guard⟩], some (3, false)⟩,
  ⟨some 81, Op.move (Operand.tmp 11), 32, "law.go:107", #[⟨3, Ground.guard⟩], some (3, false)⟩,
  ⟨some 82, Op.binOp BinOp.neq 32 (Operand.tmp 80) (Operand.tmp 81) 32, 4, "law.go:107", #[⟨4, Ground.data⟩, ⟨5, Ground.data⟩, ⟨3, Ground.guard⟩], some (3, false)⟩,
  ⟨some 83, Op.pick (Operand.tmp 79) (Operand.const (Value.bool true)) (Operand.tmp 82), 4, "law.go:107", #[⟨3, Ground.data⟩, ⟨6, Ground.data⟩], none⟩,
  ⟨some 84, Op.move (Operand.tmp 83), 4, "law.go:107", #[⟨7, Ground.data⟩, ⟨3, Ground.chain⟩], none⟩,
  ⟨some 85, Op.move (Operand.tmp 12), 38, "law.go:107", #[⟨8, Ground.guard⟩], some (8, false)⟩,
  ⟨some 86, Op.move (Operand.tmp 5), 26, "law.go:107", #[⟨8, Ground.guard⟩], some (8, false)⟩,
  ⟨some 87, Op.move (Operand.tmp 3), 22, "law.go:107", #[⟨8, Ground.guard⟩], some (8, false)⟩,
  ⟨some 88, Op.move (Operand.tmp 6), 3, "law.go:107", #[⟨8, Ground.guard⟩], some (8, false)⟩,
  ⟨some 89, Op.indexAddr 22 (Operand.tmp 87) (Operand.tmp 88), 0, "law.go:107", #[⟨11, Ground.data⟩, ⟨12, Ground.data⟩, ⟨8, Ground.guard⟩], some (8, false)⟩,
  ⟨some 90, Op.fieldAddr 31 (Operand.tmp 89) 3, 0, "law.go:107", #[⟨13, Ground.data⟩, ⟨8, Ground.guard⟩], some (8, false)⟩,
  ⟨some 91, Op.load 9 (Operand.tmp 90), 9, "law.go:107", #[⟨14, Ground.data⟩, ⟨8, Ground.guard⟩], some (8, false)⟩,
  ⟨some 92, Op.call { callee := Callee.value (Operand.func 14), args := #[Operand.tmp 86, Operand.tmp 91], argTypes := #[26, 9] }, 38, "law.go:107", #[⟨10, Ground.data⟩, ⟨15, Ground.data⟩, ⟨8, Ground.chain⟩, ⟨8, Ground.guard⟩], some (8, false)⟩,
  ⟨some 93, Op.call { callee := Callee.value (Operand.func 13), args := #[Operand.tmp 85, Operand.tmp 92], argTypes := #[38, 38] }, 4, "law.go:107", #[⟨9, Ground.data⟩, ⟨16, Ground.data⟩, ⟨16, Ground.chain⟩, ⟨8, Ground.guard⟩], some (8, false)⟩,
  ⟨some 94, Op.unOp UnOp.not 4 (Operand.tmp 93), 4, "law.go:107", #[⟨17, Ground.data⟩, ⟨8, Ground.guard⟩], some (8, false)⟩,
  ⟨some 95, Op.pick (Operand.tmp 84) (Operand.const (Value.bool true)) (Operand.tmp 94), 4, "law.go:107", #[⟨8, Ground.data⟩, ⟨18, Ground.data⟩], none⟩,
  ⟨some 96, Op.move (Operand.tmp 95), 4, "law.go:107", #[⟨19, Ground.data⟩, ⟨17, Ground.chain⟩], none⟩,
  ⟨some 97, Op.move (Operand.tmp 13), 40, "law.go:107", #[⟨20, Ground.guard⟩], some (20, false)⟩,
  ⟨some 98, Op.move (Operand.tmp 5), 26, "law.go:107", #[⟨20, Ground.guard⟩], some (20, false)⟩,
  ⟨some 99, Op.call { callee := Callee.value (Operand.func 16), args := #[Operand.tmp 98], argTypes := #[26] }, 40, "law.go:107", #[⟨22, Ground.data⟩, ⟨20, Ground.chain⟩, ⟨20, Ground.guard⟩], some (20, false)⟩,
  ⟨some 100, Op.call { callee := Callee.value (Operand.func 15), args := #[Operand.tmp 97, Operand.tmp 99], argTypes := #[40, 40] }, 4, "law.go:107", #[⟨21, Ground.data⟩, ⟨23, Ground.data⟩, ⟨23, Ground.chain⟩, ⟨20, Ground.guard⟩], some (20, false)⟩,
  ⟨some 101, Op.unOp UnOp.not 4 (Operand.tmp 100), 4, "law.go:107", #[⟨24, Ground.data⟩, ⟨20, Ground.guard⟩], some (20, false)⟩,
  ⟨some 102, Op.pick (Operand.tmp 96) (Operand.const (Value.bool true)) (Operand.tmp 101), 4, "law.go:107", #[⟨20, Ground.data⟩, ⟨25, Ground.data⟩], none⟩,
  ⟨some 103, Op.move (Operand.tmp 102), 4, "law.go:107", #[⟨26, Ground.data⟩, ⟨24, Ground.chain⟩], none⟩,
  ⟨some 104, Op.move (Operand.tmp 4), 24, "law.go:107", #[⟨27, Ground.guard⟩], some (27, false)⟩,
  ⟨some 105, Op.move (Operand.tmp 3), 22, "law.go:107", #[⟨27, Ground.guard⟩], some (27, false)⟩,
  ⟨some 106, Op.move (Operand.tmp 6), 3, "law.go:107", #[⟨27, Ground.guard⟩], some (27, false)⟩,
  ⟨some 107, Op.indexAddr 22 (Operand.tmp 105) (Operand.tmp 106), 0, "law.go:107", #[⟨29, Ground.data⟩, ⟨30, Ground.data⟩, ⟨27, Ground.guard⟩], some (27, false)⟩,
  ⟨some 108, Op.fieldAddr 31 (Operand.tmp 107) 2, 0, "law.go:107", #[⟨31, Ground.data⟩, ⟨27, Ground.guard⟩], some (27, false)⟩,
  ⟨some 109, Op.load 3 (Operand.tmp 108), 3, "law.go:107", #[⟨32, Ground.data⟩, ⟨27, Ground.guard⟩], some (27, false)⟩,
  ⟨some 110, Op.call { callee := Callee.value (Operand.func 17), args := #[Operand.tmp 104, Operand.tmp 109], argTypes := #[24, 3] }, 40, "law.go:107", #[⟨28, Ground.data⟩, ⟨33, Ground.data⟩, ⟨27, Ground.chain⟩, ⟨27, Ground.guard⟩], some (27, false)⟩,
  ⟨some 111, Op.move (Operand.tmp 5), 26, "law.go:107", #[⟨27, Ground.guard⟩], some (27, false)⟩,
  ⟨some 112, Op.move (Operand.tmp 3), 22, "law.go:107", #[⟨27, Ground.guard⟩], some (27, false)⟩,
  ⟨some 113, Op.move (Operand.tmp 6), 3, "law.go:107", #[⟨27, Ground.guard⟩], some (27, false)⟩,
  ⟨some 114, Op.indexAddr 22 (Operand.tmp 112) (Operand.tmp 113), 0, "law.go:107", #[⟨36, Ground.data⟩, ⟨37, Ground.data⟩, ⟨27, Ground.guard⟩], some (27, false)⟩,
  ⟨some 115, Op.fieldAddr 31 (Operand.tmp 114) 2, 0, "law.go:107", #[⟨38, Ground.data⟩, ⟨27, Ground.guard⟩], some (27, false)⟩,
  ⟨some 116, Op.load 3 (Operand.tmp 115), 3, "law.go:107", #[⟨39, Ground.data⟩, ⟨27, Ground.guard⟩], some (27, false)⟩,
  ⟨some 117, Op.call { callee := Callee.value (Operand.func 18), args := #[Operand.tmp 111, Operand.tmp 116], argTypes := #[26, 3] }, 40, "law.go:107", #[⟨35, Ground.data⟩, ⟨40, Ground.data⟩, ⟨34, Ground.chain⟩, ⟨27, Ground.guard⟩], some (27, false)⟩,
  ⟨some 118, Op.call { callee := Callee.value (Operand.func 15), args := #[Operand.tmp 110, Operand.tmp 117], argTypes := #[40, 40] }, 4, "law.go:107", #[⟨34, Ground.data⟩, ⟨41, Ground.data⟩, ⟨41, Ground.chain⟩, ⟨27, Ground.guard⟩], some (27, false)⟩,
  ⟨some 119, Op.unOp UnOp.not 4 (Operand.tmp 118), 4, "law.go:107", #[⟨42, Ground.data⟩, ⟨27, Ground.guard⟩], some (27, false)⟩,
  ⟨some 120, Op.pick (Operand.tmp 103) (Operand.const (Value.bool true)) (Operand.tmp 119), 4, "law.go:107", #[⟨27, Ground.data⟩, ⟨43, Ground.data⟩], none⟩,
  ⟨some 121, Op.move (Operand.tmp 120), 4, "law.go:107", #[⟨44, Ground.data⟩, ⟨42, Ground.chain⟩], none⟩,
  ⟨some 122, Op.move (Operand.tmp 4), 24, "law.go:107", #[⟨45, Ground.guard⟩], some (45, false)⟩,
  ⟨some 123, Op.move (Operand.tmp 3), 22, "law.go:107", #[⟨45, Ground.guard⟩], some (45, false)⟩,
  ⟨some 124, Op.move (Operand.tmp 6), 3, "law.go:107", #[⟨45, Ground.guard⟩], some (45, false)⟩,
  ⟨some 125, Op.indexAddr 22 (Operand.tmp 123) (Operand.tmp 124), 0, "law.go:107", #[⟨47, Ground.data⟩, ⟨48, Ground.data⟩, ⟨45, Ground.guard⟩], some (45, false)⟩,
  ⟨some 126, Op.fieldAddr 31 (Operand.tmp 125) 1, 0, "law.go:107", #[⟨49, Ground.data⟩, ⟨45, Ground.guard⟩], some (45, false)⟩,
  ⟨some 127, Op.load 9 (Operand.tmp 126), 9, "law.go:107", #[⟨50, Ground.data⟩, ⟨45, Ground.guard⟩], some (45, false)⟩,
  ⟨some 128, Op.move (Operand.tmp 3), 22, "law.go:107", #[⟨45, Ground.guard⟩], some (45, false)⟩,
  ⟨some 129, Op.move (Operand.tmp 6), 3, "law.go:107", #[⟨45, Ground.guard⟩], some (45, false)⟩,
  ⟨some 130, Op.indexAddr 22 (Operand.tmp 128) (Operand.tmp 129), 0, "law.go:107", #[⟨52, Ground.data⟩, ⟨53, Ground.data⟩, ⟨45, Ground.guard⟩], some (45, false)⟩,
  ⟨some 131, Op.fieldAddr 31 (Operand.tmp 130) 2, 0, "law.go:107", #[⟨54, Ground.data⟩, ⟨45, Ground.guard⟩], some (45, false)⟩,
  ⟨some 132, Op.load 3 (Operand.tmp 131), 3, "law.go:107", #[⟨55, Ground.data⟩, ⟨45, Ground.guard⟩], some (45, false)⟩,
  ⟨some 133, Op.call { callee := Callee.value (Operand.func 19), args := #[Operand.tmp 122, Operand.tmp 127, Operand.tmp 132], argTypes := #[24, 9, 3] }, 3, "law.go:107", #[⟨46, Ground.data⟩, ⟨51, Ground.data⟩, ⟨56, Ground.data⟩, ⟨45, Ground.chain⟩, ⟨45, Ground.guard⟩], some (45, false)⟩,
  ⟨some 134, Op.move (Operand.tmp 5), 26, "law.go:107", #[⟨45, Ground.guard⟩], some (45, false)⟩,
  ⟨some 135, Op.move (Operand.tmp 3), 22, "law.go:107", #[⟨45, Ground.guard⟩], some (45, false)⟩,
  ⟨some 136, Op.move (Operand.tmp 6), 3, "law.go:107", #[⟨45, Ground.guard⟩], some (45, false)⟩,
  ⟨some 137, Op.indexAddr 22 (Operand.tmp 135) (Operand.tmp 136), 0, "law.go:107", #[⟨59, Ground.data⟩, ⟨60, Ground.data⟩, ⟨45, Ground.guard⟩], some (45, false)⟩,
  ⟨some 138, Op.fieldAddr 31 (Operand.tmp 137) 1, 0, "law.go:107", #[⟨61, Ground.data⟩, ⟨45, Ground.guard⟩], some (45, false)⟩,
  ⟨some 139, Op.load 9 (Operand.tmp 138), 9, "law.go:107", #[⟨62, Ground.data⟩, ⟨45, Ground.guard⟩], some (45, false)⟩,
  ⟨some 140, Op.move (Operand.tmp 3), 22, "law.go:107", #[⟨45, Ground.guard⟩], some (45, false)⟩,
  ⟨some 141, Op.move (Operand.tmp 6), 3, "law.go:107", #[⟨45, Ground.guard⟩], some (45, false)⟩,
  ⟨some 142, Op.indexAddr 22 (Operand.tmp 140) (Operand.tmp 141), 0, "law.go:107", #[⟨64, Ground.data⟩, ⟨65, Ground.data⟩, ⟨45, Ground.guard⟩], some (45, false)⟩,
  ⟨some 143, Op.fieldAddr 31 (Operand.tmp 142) 2, 0, "law.go:107", #[⟨66, Ground.data⟩, ⟨45, Ground.guard⟩], some (45, false)⟩,
  ⟨some 144, Op.load 3 (Operand.tmp 143), 3, "law.go:107", #[⟨67, Ground.data⟩, ⟨45, Ground.guard⟩], some (45, false)⟩,
  ⟨some 145, Op.call { callee := Callee.value (Operand.func 20), args := #[Operand.tmp 134, Operand.tmp 139, Operand.tmp 144], argTypes := #[26, 9, 3] }, 3, "law.go:107", #[⟨58, Ground.data⟩, ⟨63, Ground.data⟩, ⟨68, Ground.data⟩, ⟨57, Ground.chain⟩, ⟨45, Ground.guard⟩], some (45, false)⟩,
  ⟨some 146, Op.binOp BinOp.neq 3 (Operand.tmp 133) (Operand.tmp 145) 3, 4, "law.go:107", #[⟨57, Ground.data⟩, ⟨69, Ground.data⟩, ⟨45, Ground.guard⟩], some (45, false)⟩,
  ⟨some 147, Op.pick (Operand.tmp 121) (Operand.const (Value.bool true)) (Operand.tmp 146), 4, "law.go:107", #[⟨45, Ground.data⟩, ⟨70, Ground.data⟩], none⟩]
def chain18 (a : Act) (g len c1 k t r : Nat) (x y : Int) (vm va : Value) (oF oT : ByteArray) (oI : Int) (cn : Nat) (v7 v9 v11 v12 : Value) : Act :=
  ((((((((((((((((((((((((((((((((((((((((((((((((((((((((((((((((((((((((a.put (some 76) (.int .i64 x)).put (some 77) (.int .i64 x)).put (some 78) (.bool false)).put (some 79) (.bool false)).put (some 80) (.int .i64 y)).put (some 81) (.int .i64 y)).put (some 82) (.bool false)).put (some 83) (.bool false)).put (some 84) (.bool false)).put (some 85) (vm)).put (some 86) (.pointer (some ⟨r, 0, none⟩))).put (some 87) (.slice (some ⟨g, 0, none⟩) len c1)).put (some 88) (.int .i64 k)).put (some 89) (.pointer (some ⟨g, k * 4, none⟩))).put (some 90) (.pointer (some ⟨g, k * 4 + 3, none⟩))).put (some 91) (.string oT)).put (some 92) (v7)).put (some 93) (.bool true)).put (some 94) (.bool false)).put (some 95) (.bool false)).put (some 96) (.bool false)).put (some 97) (va)).put (some 98) (.pointer (some ⟨r, 0, none⟩))).put (some 99) (v9)).put (some 100) (.bool true)).put (some 101) (.bool false)).put (some 102) (.bool false)).put (some 103) (.bool false)).put (some 104) (.pointer (some ⟨t, 0, none⟩))).put (some 105) (.slice (some ⟨g, 0, none⟩) len c1)).put (some 106) (.int .i64 k)).put (some 107) (.pointer (some ⟨g, k * 4, none⟩))).put (some 108) (.pointer (some ⟨g, k * 4 + 2, none⟩))).put (some 109) (.int .i64 oI)).put (some 111) (.pointer (some ⟨r, 0, none⟩))).put (some 112) (.slice (some ⟨g, 0, none⟩) len c1)).put (some 113) (.int .i64 k)).put (some 114) (.pointer (some ⟨g, k * 4, none⟩))).put (some 115) (.pointer (some ⟨g, k * 4 + 2, none⟩))).put (some 116) (.int .i64 oI)).put (some 110) (v11)).put (some 117) (v12)).put (some 118) (.bool true)).put (some 119) (.bool false)).put (some 120) (.bool false)).put (some 121) (.bool false)).put (some 122) (.pointer (some ⟨t, 0, none⟩))).put (some 123) (.slice (some ⟨g, 0, none⟩) len c1)).put (some 124) (.int .i64 k)).put (some 125) (.pointer (some ⟨g, k * 4, none⟩))).put (some 126) (.pointer (some ⟨g, k * 4 + 1, none⟩))).put (some 127) (.string oF)).put (some 128) (.slice (some ⟨g, 0, none⟩) len c1)).put (some 129) (.int .i64 k)).put (some 130) (.pointer (some ⟨g, k * 4, none⟩))).put (some 131) (.pointer (some ⟨g, k * 4 + 2, none⟩))).put (some 132) (.int .i64 oI)).put (some 134) (.pointer (some ⟨r, 0, none⟩))).put (some 135) (.slice (some ⟨g, 0, none⟩) len c1)).put (some 136) (.int .i64 k)).put (some 137) (.pointer (some ⟨g, k * 4, none⟩))).put (some 138) (.pointer (some ⟨g, k * 4 + 1, none⟩))).put (some 139) (.string oF)).put (some 140) (.slice (some ⟨g, 0, none⟩) len c1)).put (some 141) (.int .i64 k)).put (some 142) (.pointer (some ⟨g, k * 4, none⟩))).put (some 143) (.pointer (some ⟨g, k * 4 + 2, none⟩))).put (some 144) (.int .i64 oI)).put (some 133) (.int .i64 cn)).put (some 145) (.int .i64 cn)).put (some 146) (.bool false)).put (some 147) (.bool false))
set_option maxHeartbeats 4000000 in
theorem reg18 {Q : Exit → Act → World → Prop} {ops : Array Oper} (hO : ops = lit18) {a : Act} {w : World} {g k len c1 t r : Nat} {x y : Int} {vm va : Value} {oF oT : ByteArray} {oI : Int} {cn : Nat}
    (hQ : ∀ c a w (d : Nat) v, Q (.panic c) (a.put (some d) v) w → Q (.panic c) a w) (sz : a.tmps.size = 167)
    (q3_0 : At a 3 (.slice (some ⟨g, 0, none⟩) len c1))
    (q4_0 : At a 4 (.pointer (some ⟨t, 0, none⟩)))
    (q5_0 : At a 5 (.pointer (some ⟨r, 0, none⟩)))
    (q6_0 : At a 6 (.int .i64 k))
    (q8_0 : At a 8 (.int .i64 x))
    (q9_0 : At a 9 (.int .i64 y))
    (q10_0 : At a 10 (.int .i64 x))
    (q11_0 : At a 11 (.int .i64 y))
    (q12_0 : At a 12 (vm))
    (q13_0 : At a 13 (va))
    (hk : k < len) (s6 : Cells g k oF oI oT w.drew)
    (C : Calls Tryz.prog 14 #[.pointer (some ⟨r, 0, none⟩), .string oT] w.drew fun e w7 => ∃ v7, e = .returned v7 ∧ Cells g k oF oI oT w7 ∧
    Calls Tryz.prog 13 #[vm, v7] w7 fun e w8 => e = .returned (.bool true) ∧ Cells g k oF oI oT w8 ∧
    Calls Tryz.prog 16 #[.pointer (some ⟨r, 0, none⟩)] w8 fun e w9 => ∃ v9, e = .returned v9 ∧ Cells g k oF oI oT w9 ∧
    Calls Tryz.prog 15 #[va, v9] w9 fun e w10 => e = .returned (.bool true) ∧ Cells g k oF oI oT w10 ∧
    Calls Tryz.prog 17 #[.pointer (some ⟨t, 0, none⟩), .int .i64 oI] w10 fun e w11 => ∃ v11, e = .returned v11 ∧ Cells g k oF oI oT w11 ∧
    Calls Tryz.prog 18 #[.pointer (some ⟨r, 0, none⟩), .int .i64 oI] w11 fun e w12 => ∃ v12, e = .returned v12 ∧ Cells g k oF oI oT w12 ∧
    Calls Tryz.prog 15 #[v11, v12] w12 fun e w13 => e = .returned (.bool true) ∧ Cells g k oF oI oT w13 ∧
    Calls Tryz.prog 19 #[.pointer (some ⟨t, 0, none⟩), .string oF, .int .i64 oI] w13 fun e w14 => e = .returned (.int .i64 cn) ∧ Cells g k oF oI oT w14 ∧
    Calls Tryz.prog 20 #[.pointer (some ⟨r, 0, none⟩), .string oF, .int .i64 oI] w14 fun e w15 => e = .returned (.int .i64 cn) ∧ Cells g k oF oI oT w15 ∧
    ∀ a', a' = chain18 a g len c1 k t r x y vm va oF oT oI cn v7 v9 v11 v12 → Q .normal a' w15) : (Code.region 18 ops true).wp Tryz.prog Q a w := by
  have hns : Region.noSelect ops = true := by rw [hO]; kernel_rfl
  have hsz : ops.size = 72 := by rw [hO]; rfl
  refine wp_region_held (S := Cells g k oF oI oT) (by kernel_rfl) ?_
  rw [hsz]
  show wpAnyH _ _ _ _ _ 72 #[false, false, false, false, false, false, false, false, false, false, false, false, false, false, false, false, false, false, false, false, false, false, false, false, false, false, false, false, false, false, false, false, false, false, false, false, false, false, false, false, false, false, false, false, false, false, false, false, false, false, false, false, false, false, false, false, false, false, false, false, false, false, false, false, false, false, false, false, false, false, false, false] a w.drew
  refine stepV 0 (o := ⟨some 76, Op.move (Operand.tmp 8), 3, "law.go:107", #[], none⟩) (v := .int .i64 x) (d := 76) (listed' := #[true, false, false, false, false, false, false, false, false, false, false, false, false, false, false, false, false, false, false, false, false, false, false, false, false, false, false, false, false, false, false, false, false, false, false, false, false, false, false, false, false, false, false, false, false, false, false, false, false, false, false, false, false, false, false, false, false, false, false, false, false, false, false, false, false, false, false, false, false, false, false, false]) (by rw [hO]; rfl) rfl hns (by rw [hO]; kernel_rfl) (by rw [hO]; kernel_rfl) (by kernel_rfl) hQ (trivial) s6 (fun w _ => rn_move q8_0 rfl w) ?_
  intro b1 e1
  have q3_1 := q3_0.mv e1 rfl
  have q4_1 := q4_0.mv e1 rfl
  have q5_1 := q5_0.mv e1 rfl
  have q6_1 := q6_0.mv e1 rfl
  have q9_1 := q9_0.mv e1 rfl
  have q10_1 := q10_0.mv e1 rfl
  have q11_1 := q11_0.mv e1 rfl
  have q12_1 := q12_0.mv e1 rfl
  have q13_1 := q13_0.mv e1 rfl
  have z1 : b1.tmps.size = 167 := (e1 ▸ size_put _ _ _).trans sz
  have q76_1 : At b1 76 (.int .i64 x) := e1 ▸ At.eq (by rw [sz]; decide)
  clear q10_0 q11_0 q12_0 q13_0 q3_0 q4_0 q5_0 q6_0 q8_0 q9_0
  refine stepV 1 (o := ⟨some 77, Op.move (Operand.tmp 10), 3, "law.go:107", #[], none⟩) (v := .int .i64 x) (d := 77) (listed' := #[true, true, false, false, false, false, false, false, false, false, false, false, false, false, false, false, false, false, false, false, false, false, false, false, false, false, false, false, false, false, false, false, false, false, false, false, false, false, false, false, false, false, false, false, false, false, false, false, false, false, false, false, false, false, false, false, false, false, false, false, false, false, false, false, false, false, false, false, false, false, false, false]) (by rw [hO]; rfl) rfl hns (by rw [hO]; kernel_rfl) (by rw [hO]; kernel_rfl) (by kernel_rfl) hQ (trivial) s6 (fun w _ => rn_move q10_1 rfl w) ?_
  intro b2 e2
  have q3_2 := q3_1.mv e2 rfl
  have q4_2 := q4_1.mv e2 rfl
  have q5_2 := q5_1.mv e2 rfl
  have q6_2 := q6_1.mv e2 rfl
  have q9_2 := q9_1.mv e2 rfl
  have q11_2 := q11_1.mv e2 rfl
  have q12_2 := q12_1.mv e2 rfl
  have q13_2 := q13_1.mv e2 rfl
  have q76_2 := q76_1.mv e2 rfl
  have z2 : b2.tmps.size = 167 := (e2 ▸ size_put _ _ _).trans z1
  have q77_2 : At b2 77 (.int .i64 x) := e2 ▸ At.eq (by rw [z1]; decide)
  clear q10_1 q11_1 q12_1 q13_1 q3_1 q4_1 q5_1 q6_1 q76_1 q9_1
  clear z1
  refine stepV 2 (o := ⟨some 78, Op.binOp BinOp.neq 3 (Operand.tmp 76) (Operand.tmp 77) 3, 4, "law.go:107", #[⟨0, Ground.data⟩, ⟨1, Ground.data⟩], none⟩) (v := .bool false) (d := 78) (listed' := #[true, true, true, false, false, false, false, false, false, false, false, false, false, false, false, false, false, false, false, false, false, false, false, false, false, false, false, false, false, false, false, false, false, false, false, false, false, false, false, false, false, false, false, false, false, false, false, false, false, false, false, false, false, false, false, false, false, false, false, false, false, false, false, false, false, false, false, false, false, false, false, false]) (by rw [hO]; rfl) rfl hns (by rw [hO]; kernel_rfl) (by rw [hO]; kernel_rfl) (by kernel_rfl) hQ (trivial) s6 (fun w _ => rn_neq3 q76_2 q77_2 w) ?_
  intro b3 e3
  have q3_3 := q3_2.mv e3 rfl
  have q4_3 := q4_2.mv e3 rfl
  have q5_3 := q5_2.mv e3 rfl
  have q6_3 := q6_2.mv e3 rfl
  have q9_3 := q9_2.mv e3 rfl
  have q11_3 := q11_2.mv e3 rfl
  have q12_3 := q12_2.mv e3 rfl
  have q13_3 := q13_2.mv e3 rfl
  have z3 : b3.tmps.size = 167 := (e3 ▸ size_put _ _ _).trans z2
  have q78_3 : At b3 78 (.bool false) := e3 ▸ At.eq (by rw [z2]; decide)
  clear q11_2 q12_2 q13_2 q3_2 q4_2 q5_2 q6_2 q76_2 q77_2 q9_2
  clear z2
  refine stepV 3 (o := ⟨some 79, Op.move (Operand.tmp 78), 4, "law.go:107", #[⟨2, Ground.data⟩], none⟩) (v := .bool false) (d := 79) (listed' := #[true, true, true, true, false, false, false, false, false, false, false, false, false, false, false, false, false, false, false, false, false, false, false, false, false, false, false, false, false, false, false, false, false, false, false, false, false, false, false, false, false, false, false, false, false, false, false, false, false, false, false, false, false, false, false, false, false, false, false, false, false, false, false, false, false, false, false, false, false, false, false, false]) (by rw [hO]; rfl) rfl hns (by rw [hO]; kernel_rfl) (by rw [hO]; kernel_rfl) (by kernel_rfl) hQ (trivial) s6 (fun w _ => rn_move q78_3 rfl w) ?_
  intro b4 e4
  have q3_4 := q3_3.mv e4 rfl
  have q4_4 := q4_3.mv e4 rfl
  have q5_4 := q5_3.mv e4 rfl
  have q6_4 := q6_3.mv e4 rfl
  have q9_4 := q9_3.mv e4 rfl
  have q11_4 := q11_3.mv e4 rfl
  have q12_4 := q12_3.mv e4 rfl
  have q13_4 := q13_3.mv e4 rfl
  have z4 : b4.tmps.size = 167 := (e4 ▸ size_put _ _ _).trans z3
  have q79_4 : At b4 79 (.bool false) := e4 ▸ At.eq (by rw [z3]; decide)
  clear q11_3 q12_3 q13_3 q3_3 q4_3 q5_3 q6_3 q78_3 q9_3
  clear z3
  refine stepV 4 (o := ⟨some 80, Op.move (Operand.tmp 9), 32, "law.go:107", #[⟨3, Ground.guard⟩], some (3, false)⟩) (v := .int .i64 y) (d := 80) (listed' := #[true, true, true, true, true, false, false, false, false, false, false, false, false, false, false, false, false, false, false, false, false, false, false, false, false, false, false, false, false, false, false, false, false, false, false, false, false, false, false, false, false, false, false, false, false, false, false, false, false, false, false, false, false, false, false, false, false, false, false, false, false, false, false, false, false, false, false, false, false, false, false, false]) (by rw [hO]; rfl) rfl hns (by rw [hO]; kernel_rfl) (by rw [hO]; kernel_rfl) (by kernel_rfl) hQ ⟨79, by rw [hO]; rfl, q79_4⟩ s6 (fun w _ => rn_move q9_4 rfl w) ?_
  intro b5 e5
  have q3_5 := q3_4.mv e5 rfl
  have q4_5 := q4_4.mv e5 rfl
  have q5_5 := q5_4.mv e5 rfl
  have q6_5 := q6_4.mv e5 rfl
  have q11_5 := q11_4.mv e5 rfl
  have q12_5 := q12_4.mv e5 rfl
  have q13_5 := q13_4.mv e5 rfl
  have q79_5 := q79_4.mv e5 rfl
  have z5 : b5.tmps.size = 167 := (e5 ▸ size_put _ _ _).trans z4
  have q80_5 : At b5 80 (.int .i64 y) := e5 ▸ At.eq (by rw [z4]; decide)
  clear q11_4 q12_4 q13_4 q3_4 q4_4 q5_4 q6_4 q79_4 q9_4
  clear z4
  refine stepV 5 (o := ⟨some 81, Op.move (Operand.tmp 11), 32, "law.go:107", #[⟨3, Ground.guard⟩], some (3, false)⟩) (v := .int .i64 y) (d := 81) (listed' := #[true, true, true, true, true, true, false, false, false, false, false, false, false, false, false, false, false, false, false, false, false, false, false, false, false, false, false, false, false, false, false, false, false, false, false, false, false, false, false, false, false, false, false, false, false, false, false, false, false, false, false, false, false, false, false, false, false, false, false, false, false, false, false, false, false, false, false, false, false, false, false, false]) (by rw [hO]; rfl) rfl hns (by rw [hO]; kernel_rfl) (by rw [hO]; kernel_rfl) (by kernel_rfl) hQ ⟨79, by rw [hO]; rfl, q79_5⟩ s6 (fun w _ => rn_move q11_5 rfl w) ?_
  intro b6 e6
  have q3_6 := q3_5.mv e6 rfl
  have q4_6 := q4_5.mv e6 rfl
  have q5_6 := q5_5.mv e6 rfl
  have q6_6 := q6_5.mv e6 rfl
  have q12_6 := q12_5.mv e6 rfl
  have q13_6 := q13_5.mv e6 rfl
  have q79_6 := q79_5.mv e6 rfl
  have q80_6 := q80_5.mv e6 rfl
  have z6 : b6.tmps.size = 167 := (e6 ▸ size_put _ _ _).trans z5
  have q81_6 : At b6 81 (.int .i64 y) := e6 ▸ At.eq (by rw [z5]; decide)
  clear q11_5 q12_5 q13_5 q3_5 q4_5 q5_5 q6_5 q79_5 q80_5
  clear z5
  refine stepV 6 (o := ⟨some 82, Op.binOp BinOp.neq 32 (Operand.tmp 80) (Operand.tmp 81) 32, 4, "law.go:107", #[⟨4, Ground.data⟩, ⟨5, Ground.data⟩, ⟨3, Ground.guard⟩], some (3, false)⟩) (v := .bool false) (d := 82) (listed' := #[true, true, true, true, true, true, true, false, false, false, false, false, false, false, false, false, false, false, false, false, false, false, false, false, false, false, false, false, false, false, false, false, false, false, false, false, false, false, false, false, false, false, false, false, false, false, false, false, false, false, false, false, false, false, false, false, false, false, false, false, false, false, false, false, false, false, false, false, false, false, false, false]) (by rw [hO]; rfl) rfl hns (by rw [hO]; kernel_rfl) (by rw [hO]; kernel_rfl) (by kernel_rfl) hQ ⟨79, by rw [hO]; rfl, q79_6⟩ s6 (fun w _ => rn_neq32 q80_6 q81_6 w) ?_
  intro b7 e7
  have q3_7 := q3_6.mv e7 rfl
  have q4_7 := q4_6.mv e7 rfl
  have q5_7 := q5_6.mv e7 rfl
  have q6_7 := q6_6.mv e7 rfl
  have q12_7 := q12_6.mv e7 rfl
  have q13_7 := q13_6.mv e7 rfl
  have q79_7 := q79_6.mv e7 rfl
  have z7 : b7.tmps.size = 167 := (e7 ▸ size_put _ _ _).trans z6
  have q82_7 : At b7 82 (.bool false) := e7 ▸ At.eq (by rw [z6]; decide)
  clear q12_6 q13_6 q3_6 q4_6 q5_6 q6_6 q79_6 q80_6 q81_6
  clear z6
  refine stepV 7 (o := ⟨some 83, Op.pick (Operand.tmp 79) (Operand.const (Value.bool true)) (Operand.tmp 82), 4, "law.go:107", #[⟨3, Ground.data⟩, ⟨6, Ground.data⟩], none⟩) (v := .bool false) (d := 83) (listed' := #[true, true, true, true, true, true, true, true, false, false, false, false, false, false, false, false, false, false, false, false, false, false, false, false, false, false, false, false, false, false, false, false, false, false, false, false, false, false, false, false, false, false, false, false, false, false, false, false, false, false, false, false, false, false, false, false, false, false, false, false, false, false, false, false, false, false, false, false, false, false, false, false]) (by rw [hO]; rfl) rfl hns (by rw [hO]; kernel_rfl) (by rw [hO]; kernel_rfl) (by kernel_rfl) hQ (trivial) s6 (fun w _ => rn_pick q79_7 q82_7 w) ?_
  intro b8 e8
  have q3_8 := q3_7.mv e8 rfl
  have q4_8 := q4_7.mv e8 rfl
  have q5_8 := q5_7.mv e8 rfl
  have q6_8 := q6_7.mv e8 rfl
  have q12_8 := q12_7.mv e8 rfl
  have q13_8 := q13_7.mv e8 rfl
  have z8 : b8.tmps.size = 167 := (e8 ▸ size_put _ _ _).trans z7
  have q83_8 : At b8 83 (.bool false) := e8 ▸ At.eq (by rw [z7]; decide)
  clear q12_7 q13_7 q3_7 q4_7 q5_7 q6_7 q79_7 q82_7
  clear z7
  refine stepV 8 (o := ⟨some 84, Op.move (Operand.tmp 83), 4, "law.go:107", #[⟨7, Ground.data⟩, ⟨3, Ground.chain⟩], none⟩) (v := .bool false) (d := 84) (listed' := #[true, true, true, true, true, true, true, true, true, false, false, false, false, false, false, false, false, false, false, false, false, false, false, false, false, false, false, false, false, false, false, false, false, false, false, false, false, false, false, false, false, false, false, false, false, false, false, false, false, false, false, false, false, false, false, false, false, false, false, false, false, false, false, false, false, false, false, false, false, false, false, false]) (by rw [hO]; rfl) rfl hns (by rw [hO]; kernel_rfl) (by rw [hO]; kernel_rfl) (by kernel_rfl) hQ (trivial) s6 (fun w _ => rn_move q83_8 rfl w) ?_
  intro b9 e9
  have q3_9 := q3_8.mv e9 rfl
  have q4_9 := q4_8.mv e9 rfl
  have q5_9 := q5_8.mv e9 rfl
  have q6_9 := q6_8.mv e9 rfl
  have q12_9 := q12_8.mv e9 rfl
  have q13_9 := q13_8.mv e9 rfl
  have z9 : b9.tmps.size = 167 := (e9 ▸ size_put _ _ _).trans z8
  have q84_9 : At b9 84 (.bool false) := e9 ▸ At.eq (by rw [z8]; decide)
  clear q12_8 q13_8 q3_8 q4_8 q5_8 q6_8 q83_8
  clear z8
  refine stepV 9 (o := ⟨some 85, Op.move (Operand.tmp 12), 38, "law.go:107", #[⟨8, Ground.guard⟩], some (8, false)⟩) (v := vm) (d := 85) (listed' := #[true, true, true, true, true, true, true, true, true, true, false, false, false, false, false, false, false, false, false, false, false, false, false, false, false, false, false, false, false, false, false, false, false, false, false, false, false, false, false, false, false, false, false, false, false, false, false, false, false, false, false, false, false, false, false, false, false, false, false, false, false, false, false, false, false, false, false, false, false, false, false, false]) (by rw [hO]; rfl) rfl hns (by rw [hO]; kernel_rfl) (by rw [hO]; kernel_rfl) (by kernel_rfl) hQ ⟨84, by rw [hO]; rfl, q84_9⟩ s6 (fun w _ => rn_move q12_9 rfl w) ?_
  intro b10 e10
  have q3_10 := q3_9.mv e10 rfl
  have q4_10 := q4_9.mv e10 rfl
  have q5_10 := q5_9.mv e10 rfl
  have q6_10 := q6_9.mv e10 rfl
  have q13_10 := q13_9.mv e10 rfl
  have q84_10 := q84_9.mv e10 rfl
  have z10 : b10.tmps.size = 167 := (e10 ▸ size_put _ _ _).trans z9
  have q85_10 : At b10 85 (vm) := e10 ▸ At.eq (by rw [z9]; decide)
  clear q12_9 q13_9 q3_9 q4_9 q5_9 q6_9 q84_9
  clear z9
  refine stepV 10 (o := ⟨some 86, Op.move (Operand.tmp 5), 26, "law.go:107", #[⟨8, Ground.guard⟩], some (8, false)⟩) (v := .pointer (some ⟨r, 0, none⟩)) (d := 86) (listed' := #[true, true, true, true, true, true, true, true, true, true, true, false, false, false, false, false, false, false, false, false, false, false, false, false, false, false, false, false, false, false, false, false, false, false, false, false, false, false, false, false, false, false, false, false, false, false, false, false, false, false, false, false, false, false, false, false, false, false, false, false, false, false, false, false, false, false, false, false, false, false, false, false]) (by rw [hO]; rfl) rfl hns (by rw [hO]; kernel_rfl) (by rw [hO]; kernel_rfl) (by kernel_rfl) hQ ⟨84, by rw [hO]; rfl, q84_10⟩ s6 (fun w _ => rn_move q5_10 rfl w) ?_
  intro b11 e11
  have q3_11 := q3_10.mv e11 rfl
  have q4_11 := q4_10.mv e11 rfl
  have q5_11 := q5_10.mv e11 rfl
  have q6_11 := q6_10.mv e11 rfl
  have q13_11 := q13_10.mv e11 rfl
  have q84_11 := q84_10.mv e11 rfl
  have q85_11 := q85_10.mv e11 rfl
  have z11 : b11.tmps.size = 167 := (e11 ▸ size_put _ _ _).trans z10
  have q86_11 : At b11 86 (.pointer (some ⟨r, 0, none⟩)) := e11 ▸ At.eq (by rw [z10]; decide)
  clear q13_10 q3_10 q4_10 q5_10 q6_10 q84_10 q85_10
  clear z10
  refine stepV 11 (o := ⟨some 87, Op.move (Operand.tmp 3), 22, "law.go:107", #[⟨8, Ground.guard⟩], some (8, false)⟩) (v := .slice (some ⟨g, 0, none⟩) len c1) (d := 87) (listed' := #[true, true, true, true, true, true, true, true, true, true, true, true, false, false, false, false, false, false, false, false, false, false, false, false, false, false, false, false, false, false, false, false, false, false, false, false, false, false, false, false, false, false, false, false, false, false, false, false, false, false, false, false, false, false, false, false, false, false, false, false, false, false, false, false, false, false, false, false, false, false, false, false]) (by rw [hO]; rfl) rfl hns (by rw [hO]; kernel_rfl) (by rw [hO]; kernel_rfl) (by kernel_rfl) hQ ⟨84, by rw [hO]; rfl, q84_11⟩ s6 (fun w _ => rn_move q3_11 rfl w) ?_
  intro b12 e12
  have q3_12 := q3_11.mv e12 rfl
  have q4_12 := q4_11.mv e12 rfl
  have q5_12 := q5_11.mv e12 rfl
  have q6_12 := q6_11.mv e12 rfl
  have q13_12 := q13_11.mv e12 rfl
  have q84_12 := q84_11.mv e12 rfl
  have q85_12 := q85_11.mv e12 rfl
  have q86_12 := q86_11.mv e12 rfl
  have z12 : b12.tmps.size = 167 := (e12 ▸ size_put _ _ _).trans z11
  have q87_12 : At b12 87 (.slice (some ⟨g, 0, none⟩) len c1) := e12 ▸ At.eq (by rw [z11]; decide)
  clear q13_11 q3_11 q4_11 q5_11 q6_11 q84_11 q85_11 q86_11
  clear z11
  refine stepV 12 (o := ⟨some 88, Op.move (Operand.tmp 6), 3, "law.go:107", #[⟨8, Ground.guard⟩], some (8, false)⟩) (v := .int .i64 k) (d := 88) (listed' := #[true, true, true, true, true, true, true, true, true, true, true, true, true, false, false, false, false, false, false, false, false, false, false, false, false, false, false, false, false, false, false, false, false, false, false, false, false, false, false, false, false, false, false, false, false, false, false, false, false, false, false, false, false, false, false, false, false, false, false, false, false, false, false, false, false, false, false, false, false, false, false, false]) (by rw [hO]; rfl) rfl hns (by rw [hO]; kernel_rfl) (by rw [hO]; kernel_rfl) (by kernel_rfl) hQ ⟨84, by rw [hO]; rfl, q84_12⟩ s6 (fun w _ => rn_move q6_12 rfl w) ?_
  intro b13 e13
  have q3_13 := q3_12.mv e13 rfl
  have q4_13 := q4_12.mv e13 rfl
  have q5_13 := q5_12.mv e13 rfl
  have q6_13 := q6_12.mv e13 rfl
  have q13_13 := q13_12.mv e13 rfl
  have q84_13 := q84_12.mv e13 rfl
  have q85_13 := q85_12.mv e13 rfl
  have q86_13 := q86_12.mv e13 rfl
  have q87_13 := q87_12.mv e13 rfl
  have z13 : b13.tmps.size = 167 := (e13 ▸ size_put _ _ _).trans z12
  have q88_13 : At b13 88 (.int .i64 k) := e13 ▸ At.eq (by rw [z12]; decide)
  clear q13_12 q3_12 q4_12 q5_12 q6_12 q84_12 q85_12 q86_12 q87_12
  clear z12
  refine stepV 13 (o := ⟨some 89, Op.indexAddr 22 (Operand.tmp 87) (Operand.tmp 88), 0, "law.go:107", #[⟨11, Ground.data⟩, ⟨12, Ground.data⟩, ⟨8, Ground.guard⟩], some (8, false)⟩) (v := .pointer (some ⟨g, k * 4, none⟩)) (d := 89) (listed' := #[true, true, true, true, true, true, true, true, true, true, true, true, true, true, false, false, false, false, false, false, false, false, false, false, false, false, false, false, false, false, false, false, false, false, false, false, false, false, false, false, false, false, false, false, false, false, false, false, false, false, false, false, false, false, false, false, false, false, false, false, false, false, false, false, false, false, false, false, false, false, false, false]) (by rw [hO]; rfl) rfl hns (by rw [hO]; kernel_rfl) (by rw [hO]; kernel_rfl) (by kernel_rfl) hQ ⟨84, by rw [hO]; rfl, q84_13⟩ s6 (fun w _ => rn_idx q87_13 q88_13 hk w) ?_
  intro b14 e14
  have q3_14 := q3_13.mv e14 rfl
  have q4_14 := q4_13.mv e14 rfl
  have q5_14 := q5_13.mv e14 rfl
  have q6_14 := q6_13.mv e14 rfl
  have q13_14 := q13_13.mv e14 rfl
  have q84_14 := q84_13.mv e14 rfl
  have q85_14 := q85_13.mv e14 rfl
  have q86_14 := q86_13.mv e14 rfl
  have z14 : b14.tmps.size = 167 := (e14 ▸ size_put _ _ _).trans z13
  have q89_14 : At b14 89 (.pointer (some ⟨g, k * 4, none⟩)) := e14 ▸ At.eq (by rw [z13]; decide)
  clear q13_13 q3_13 q4_13 q5_13 q6_13 q84_13 q85_13 q86_13 q87_13 q88_13
  clear z13
  refine stepV 14 (o := ⟨some 90, Op.fieldAddr 31 (Operand.tmp 89) 3, 0, "law.go:107", #[⟨13, Ground.data⟩, ⟨8, Ground.guard⟩], some (8, false)⟩) (v := .pointer (some ⟨g, k * 4 + 3, none⟩)) (d := 90) (listed' := #[true, true, true, true, true, true, true, true, true, true, true, true, true, true, true, false, false, false, false, false, false, false, false, false, false, false, false, false, false, false, false, false, false, false, false, false, false, false, false, false, false, false, false, false, false, false, false, false, false, false, false, false, false, false, false, false, false, false, false, false, false, false, false, false, false, false, false, false, false, false, false, false]) (by rw [hO]; rfl) rfl hns (by rw [hO]; kernel_rfl) (by rw [hO]; kernel_rfl) (by kernel_rfl) hQ ⟨84, by rw [hO]; rfl, q84_14⟩ s6 (fun w _ => rn_fld 3 (by decide) q89_14 w) ?_
  intro b15 e15
  have q3_15 := q3_14.mv e15 rfl
  have q4_15 := q4_14.mv e15 rfl
  have q5_15 := q5_14.mv e15 rfl
  have q6_15 := q6_14.mv e15 rfl
  have q13_15 := q13_14.mv e15 rfl
  have q84_15 := q84_14.mv e15 rfl
  have q85_15 := q85_14.mv e15 rfl
  have q86_15 := q86_14.mv e15 rfl
  have z15 : b15.tmps.size = 167 := (e15 ▸ size_put _ _ _).trans z14
  have q90_15 : At b15 90 (.pointer (some ⟨g, k * 4 + 3, none⟩)) := e15 ▸ At.eq (by rw [z14]; decide)
  clear q13_14 q3_14 q4_14 q5_14 q6_14 q84_14 q85_14 q86_14 q89_14
  clear z14
  refine stepV 15 (o := ⟨some 91, Op.load 9 (Operand.tmp 90), 9, "law.go:107", #[⟨14, Ground.data⟩, ⟨8, Ground.guard⟩], some (8, false)⟩) (v := .string oT) (d := 91) (listed' := #[true, true, true, true, true, true, true, true, true, true, true, true, true, true, true, true, false, false, false, false, false, false, false, false, false, false, false, false, false, false, false, false, false, false, false, false, false, false, false, false, false, false, false, false, false, false, false, false, false, false, false, false, false, false, false, false, false, false, false, false, false, false, false, false, false, false, false, false, false, false, false, false]) (by rw [hO]; rfl) rfl hns (by rw [hO]; kernel_rfl) (by rw [hO]; kernel_rfl) (by kernel_rfl) hQ ⟨84, by rw [hO]; rfl, q84_15⟩ s6 (fun w hs => rn_lds q90_15 w hs.2.2) ?_
  intro b16 e16
  have q3_16 := q3_15.mv e16 rfl
  have q4_16 := q4_15.mv e16 rfl
  have q5_16 := q5_15.mv e16 rfl
  have q6_16 := q6_15.mv e16 rfl
  have q13_16 := q13_15.mv e16 rfl
  have q84_16 := q84_15.mv e16 rfl
  have q85_16 := q85_15.mv e16 rfl
  have q86_16 := q86_15.mv e16 rfl
  have z16 : b16.tmps.size = 167 := (e16 ▸ size_put _ _ _).trans z15
  have q91_16 : At b16 91 (.string oT) := e16 ▸ At.eq (by rw [z15]; decide)
  clear q13_15 q3_15 q4_15 q5_15 q6_15 q84_15 q85_15 q86_15 q90_15
  clear z15
  refine stepC 16 (o := ⟨some 92, Op.call { callee := Callee.value (Operand.func 14), args := #[Operand.tmp 86, Operand.tmp 91], argTypes := #[26, 9] }, 38, "law.go:107", #[⟨10, Ground.data⟩, ⟨15, Ground.data⟩, ⟨8, Ground.chain⟩, ⟨8, Ground.guard⟩], some (8, false)⟩) (d := 92) (listed' := #[true, true, true, true, true, true, true, true, true, true, true, true, true, true, true, true, true, false, false, false, false, false, false, false, false, false, false, false, false, false, false, false, false, false, false, false, false, false, false, false, false, false, false, false, false, false, false, false, false, false, false, false, false, false, false, false, false, false, false, false, false, false, false, false, false, false, false, false, false, false, false, false]) (by rw [hO]; rfl) rfl (by rw [hO]; kernel_rfl) (by kernel_rfl) ⟨84, by rw [hO]; rfl, q84_16⟩ (rn_c14 q86_16 q91_16 _) ?_
  refine C.mono ?_
  clear C
  rintro e w7 ⟨v7, rfl, s7, C⟩
  refine ⟨_, rfl, s7, ?_⟩
  intro b17 e17
  have q3_17 := q3_16.mv e17 rfl
  have q4_17 := q4_16.mv e17 rfl
  have q5_17 := q5_16.mv e17 rfl
  have q6_17 := q6_16.mv e17 rfl
  have q13_17 := q13_16.mv e17 rfl
  have q84_17 := q84_16.mv e17 rfl
  have q85_17 := q85_16.mv e17 rfl
  have z17 : b17.tmps.size = 167 := (e17 ▸ size_put _ _ _).trans z16
  have q92_17 : At b17 92 (v7) := e17 ▸ At.eq (by rw [z16]; decide)
  clear q13_16 q3_16 q4_16 q5_16 q6_16 q84_16 q85_16 q86_16 q91_16
  clear z16
  refine stepC 17 (o := ⟨some 93, Op.call { callee := Callee.value (Operand.func 13), args := #[Operand.tmp 85, Operand.tmp 92], argTypes := #[38, 38] }, 4, "law.go:107", #[⟨9, Ground.data⟩, ⟨16, Ground.data⟩, ⟨16, Ground.chain⟩, ⟨8, Ground.guard⟩], some (8, false)⟩) (d := 93) (listed' := #[true, true, true, true, true, true, true, true, true, true, true, true, true, true, true, true, true, true, false, false, false, false, false, false, false, false, false, false, false, false, false, false, false, false, false, false, false, false, false, false, false, false, false, false, false, false, false, false, false, false, false, false, false, false, false, false, false, false, false, false, false, false, false, false, false, false, false, false, false, false, false, false]) (by rw [hO]; rfl) rfl (by rw [hO]; kernel_rfl) (by kernel_rfl) ⟨84, by rw [hO]; rfl, q84_17⟩ (rn_c13 q85_17 q92_17 _) ?_
  refine C.mono ?_
  clear C
  rintro e w8 ⟨rfl, s8, C⟩
  refine ⟨_, rfl, s8, ?_⟩
  intro b18 e18
  have q3_18 := q3_17.mv e18 rfl
  have q4_18 := q4_17.mv e18 rfl
  have q5_18 := q5_17.mv e18 rfl
  have q6_18 := q6_17.mv e18 rfl
  have q13_18 := q13_17.mv e18 rfl
  have q84_18 := q84_17.mv e18 rfl
  have z18 : b18.tmps.size = 167 := (e18 ▸ size_put _ _ _).trans z17
  have q93_18 : At b18 93 (.bool true) := e18 ▸ At.eq (by rw [z17]; decide)
  clear q13_17 q3_17 q4_17 q5_17 q6_17 q84_17 q85_17 q92_17
  clear z17
  refine stepV 18 (o := ⟨some 94, Op.unOp UnOp.not 4 (Operand.tmp 93), 4, "law.go:107", #[⟨17, Ground.data⟩, ⟨8, Ground.guard⟩], some (8, false)⟩) (v := .bool false) (d := 94) (listed' := #[true, true, true, true, true, true, true, true, true, true, true, true, true, true, true, true, true, true, true, false, false, false, false, false, false, false, false, false, false, false, false, false, false, false, false, false, false, false, false, false, false, false, false, false, false, false, false, false, false, false, false, false, false, false, false, false, false, false, false, false, false, false, false, false, false, false, false, false, false, false, false, false]) (by rw [hO]; rfl) rfl hns (by rw [hO]; kernel_rfl) (by rw [hO]; kernel_rfl) (by kernel_rfl) hQ ⟨84, by rw [hO]; rfl, q84_18⟩ s8 (fun w _ => rn_not q93_18 w) ?_
  intro b19 e19
  have q3_19 := q3_18.mv e19 rfl
  have q4_19 := q4_18.mv e19 rfl
  have q5_19 := q5_18.mv e19 rfl
  have q6_19 := q6_18.mv e19 rfl
  have q13_19 := q13_18.mv e19 rfl
  have q84_19 := q84_18.mv e19 rfl
  have z19 : b19.tmps.size = 167 := (e19 ▸ size_put _ _ _).trans z18
  have q94_19 : At b19 94 (.bool false) := e19 ▸ At.eq (by rw [z18]; decide)
  clear q13_18 q3_18 q4_18 q5_18 q6_18 q84_18 q93_18
  clear z18
  refine stepV 19 (o := ⟨some 95, Op.pick (Operand.tmp 84) (Operand.const (Value.bool true)) (Operand.tmp 94), 4, "law.go:107", #[⟨8, Ground.data⟩, ⟨18, Ground.data⟩], none⟩) (v := .bool false) (d := 95) (listed' := #[true, true, true, true, true, true, true, true, true, true, true, true, true, true, true, true, true, true, true, true, false, false, false, false, false, false, false, false, false, false, false, false, false, false, false, false, false, false, false, false, false, false, false, false, false, false, false, false, false, false, false, false, false, false, false, false, false, false, false, false, false, false, false, false, false, false, false, false, false, false, false, false]) (by rw [hO]; rfl) rfl hns (by rw [hO]; kernel_rfl) (by rw [hO]; kernel_rfl) (by kernel_rfl) hQ (trivial) s8 (fun w _ => rn_pick q84_19 q94_19 w) ?_
  intro b20 e20
  have q3_20 := q3_19.mv e20 rfl
  have q4_20 := q4_19.mv e20 rfl
  have q5_20 := q5_19.mv e20 rfl
  have q6_20 := q6_19.mv e20 rfl
  have q13_20 := q13_19.mv e20 rfl
  have z20 : b20.tmps.size = 167 := (e20 ▸ size_put _ _ _).trans z19
  have q95_20 : At b20 95 (.bool false) := e20 ▸ At.eq (by rw [z19]; decide)
  clear q13_19 q3_19 q4_19 q5_19 q6_19 q84_19 q94_19
  clear z19
  refine stepV 20 (o := ⟨some 96, Op.move (Operand.tmp 95), 4, "law.go:107", #[⟨19, Ground.data⟩, ⟨17, Ground.chain⟩], none⟩) (v := .bool false) (d := 96) (listed' := #[true, true, true, true, true, true, true, true, true, true, true, true, true, true, true, true, true, true, true, true, true, false, false, false, false, false, false, false, false, false, false, false, false, false, false, false, false, false, false, false, false, false, false, false, false, false, false, false, false, false, false, false, false, false, false, false, false, false, false, false, false, false, false, false, false, false, false, false, false, false, false, false]) (by rw [hO]; rfl) rfl hns (by rw [hO]; kernel_rfl) (by rw [hO]; kernel_rfl) (by kernel_rfl) hQ (trivial) s8 (fun w _ => rn_move q95_20 rfl w) ?_
  intro b21 e21
  have q3_21 := q3_20.mv e21 rfl
  have q4_21 := q4_20.mv e21 rfl
  have q5_21 := q5_20.mv e21 rfl
  have q6_21 := q6_20.mv e21 rfl
  have q13_21 := q13_20.mv e21 rfl
  have z21 : b21.tmps.size = 167 := (e21 ▸ size_put _ _ _).trans z20
  have q96_21 : At b21 96 (.bool false) := e21 ▸ At.eq (by rw [z20]; decide)
  clear q13_20 q3_20 q4_20 q5_20 q6_20 q95_20
  clear z20
  refine stepV 21 (o := ⟨some 97, Op.move (Operand.tmp 13), 40, "law.go:107", #[⟨20, Ground.guard⟩], some (20, false)⟩) (v := va) (d := 97) (listed' := #[true, true, true, true, true, true, true, true, true, true, true, true, true, true, true, true, true, true, true, true, true, true, false, false, false, false, false, false, false, false, false, false, false, false, false, false, false, false, false, false, false, false, false, false, false, false, false, false, false, false, false, false, false, false, false, false, false, false, false, false, false, false, false, false, false, false, false, false, false, false, false, false]) (by rw [hO]; rfl) rfl hns (by rw [hO]; kernel_rfl) (by rw [hO]; kernel_rfl) (by kernel_rfl) hQ ⟨96, by rw [hO]; rfl, q96_21⟩ s8 (fun w _ => rn_move q13_21 rfl w) ?_
  intro b22 e22
  have q3_22 := q3_21.mv e22 rfl
  have q4_22 := q4_21.mv e22 rfl
  have q5_22 := q5_21.mv e22 rfl
  have q6_22 := q6_21.mv e22 rfl
  have q96_22 := q96_21.mv e22 rfl
  have z22 : b22.tmps.size = 167 := (e22 ▸ size_put _ _ _).trans z21
  have q97_22 : At b22 97 (va) := e22 ▸ At.eq (by rw [z21]; decide)
  clear q13_21 q3_21 q4_21 q5_21 q6_21 q96_21
  clear z21
  refine stepV 22 (o := ⟨some 98, Op.move (Operand.tmp 5), 26, "law.go:107", #[⟨20, Ground.guard⟩], some (20, false)⟩) (v := .pointer (some ⟨r, 0, none⟩)) (d := 98) (listed' := #[true, true, true, true, true, true, true, true, true, true, true, true, true, true, true, true, true, true, true, true, true, true, true, false, false, false, false, false, false, false, false, false, false, false, false, false, false, false, false, false, false, false, false, false, false, false, false, false, false, false, false, false, false, false, false, false, false, false, false, false, false, false, false, false, false, false, false, false, false, false, false, false]) (by rw [hO]; rfl) rfl hns (by rw [hO]; kernel_rfl) (by rw [hO]; kernel_rfl) (by kernel_rfl) hQ ⟨96, by rw [hO]; rfl, q96_22⟩ s8 (fun w _ => rn_move q5_22 rfl w) ?_
  intro b23 e23
  have q3_23 := q3_22.mv e23 rfl
  have q4_23 := q4_22.mv e23 rfl
  have q5_23 := q5_22.mv e23 rfl
  have q6_23 := q6_22.mv e23 rfl
  have q96_23 := q96_22.mv e23 rfl
  have q97_23 := q97_22.mv e23 rfl
  have z23 : b23.tmps.size = 167 := (e23 ▸ size_put _ _ _).trans z22
  have q98_23 : At b23 98 (.pointer (some ⟨r, 0, none⟩)) := e23 ▸ At.eq (by rw [z22]; decide)
  clear q3_22 q4_22 q5_22 q6_22 q96_22 q97_22
  clear z22
  refine stepC 23 (o := ⟨some 99, Op.call { callee := Callee.value (Operand.func 16), args := #[Operand.tmp 98], argTypes := #[26] }, 40, "law.go:107", #[⟨22, Ground.data⟩, ⟨20, Ground.chain⟩, ⟨20, Ground.guard⟩], some (20, false)⟩) (d := 99) (listed' := #[true, true, true, true, true, true, true, true, true, true, true, true, true, true, true, true, true, true, true, true, true, true, true, true, false, false, false, false, false, false, false, false, false, false, false, false, false, false, false, false, false, false, false, false, false, false, false, false, false, false, false, false, false, false, false, false, false, false, false, false, false, false, false, false, false, false, false, false, false, false, false, false]) (by rw [hO]; rfl) rfl (by rw [hO]; kernel_rfl) (by kernel_rfl) ⟨96, by rw [hO]; rfl, q96_23⟩ (rn_c16 q98_23 _) ?_
  refine C.mono ?_
  clear C
  rintro e w9 ⟨v9, rfl, s9, C⟩
  refine ⟨_, rfl, s9, ?_⟩
  intro b24 e24
  have q3_24 := q3_23.mv e24 rfl
  have q4_24 := q4_23.mv e24 rfl
  have q5_24 := q5_23.mv e24 rfl
  have q6_24 := q6_23.mv e24 rfl
  have q96_24 := q96_23.mv e24 rfl
  have q97_24 := q97_23.mv e24 rfl
  have z24 : b24.tmps.size = 167 := (e24 ▸ size_put _ _ _).trans z23
  have q99_24 : At b24 99 (v9) := e24 ▸ At.eq (by rw [z23]; decide)
  clear q3_23 q4_23 q5_23 q6_23 q96_23 q97_23 q98_23
  clear z23
  refine stepC 24 (o := ⟨some 100, Op.call { callee := Callee.value (Operand.func 15), args := #[Operand.tmp 97, Operand.tmp 99], argTypes := #[40, 40] }, 4, "law.go:107", #[⟨21, Ground.data⟩, ⟨23, Ground.data⟩, ⟨23, Ground.chain⟩, ⟨20, Ground.guard⟩], some (20, false)⟩) (d := 100) (listed' := #[true, true, true, true, true, true, true, true, true, true, true, true, true, true, true, true, true, true, true, true, true, true, true, true, true, false, false, false, false, false, false, false, false, false, false, false, false, false, false, false, false, false, false, false, false, false, false, false, false, false, false, false, false, false, false, false, false, false, false, false, false, false, false, false, false, false, false, false, false, false, false, false]) (by rw [hO]; rfl) rfl (by rw [hO]; kernel_rfl) (by kernel_rfl) ⟨96, by rw [hO]; rfl, q96_24⟩ (rn_c15 q97_24 q99_24 _) ?_
  refine C.mono ?_
  clear C
  rintro e w10 ⟨rfl, s10, C⟩
  refine ⟨_, rfl, s10, ?_⟩
  intro b25 e25
  have q3_25 := q3_24.mv e25 rfl
  have q4_25 := q4_24.mv e25 rfl
  have q5_25 := q5_24.mv e25 rfl
  have q6_25 := q6_24.mv e25 rfl
  have q96_25 := q96_24.mv e25 rfl
  have z25 : b25.tmps.size = 167 := (e25 ▸ size_put _ _ _).trans z24
  have q100_25 : At b25 100 (.bool true) := e25 ▸ At.eq (by rw [z24]; decide)
  clear q3_24 q4_24 q5_24 q6_24 q96_24 q97_24 q99_24
  clear z24
  refine stepV 25 (o := ⟨some 101, Op.unOp UnOp.not 4 (Operand.tmp 100), 4, "law.go:107", #[⟨24, Ground.data⟩, ⟨20, Ground.guard⟩], some (20, false)⟩) (v := .bool false) (d := 101) (listed' := #[true, true, true, true, true, true, true, true, true, true, true, true, true, true, true, true, true, true, true, true, true, true, true, true, true, true, false, false, false, false, false, false, false, false, false, false, false, false, false, false, false, false, false, false, false, false, false, false, false, false, false, false, false, false, false, false, false, false, false, false, false, false, false, false, false, false, false, false, false, false, false, false]) (by rw [hO]; rfl) rfl hns (by rw [hO]; kernel_rfl) (by rw [hO]; kernel_rfl) (by kernel_rfl) hQ ⟨96, by rw [hO]; rfl, q96_25⟩ s10 (fun w _ => rn_not q100_25 w) ?_
  intro b26 e26
  have q3_26 := q3_25.mv e26 rfl
  have q4_26 := q4_25.mv e26 rfl
  have q5_26 := q5_25.mv e26 rfl
  have q6_26 := q6_25.mv e26 rfl
  have q96_26 := q96_25.mv e26 rfl
  have z26 : b26.tmps.size = 167 := (e26 ▸ size_put _ _ _).trans z25
  have q101_26 : At b26 101 (.bool false) := e26 ▸ At.eq (by rw [z25]; decide)
  clear q100_25 q3_25 q4_25 q5_25 q6_25 q96_25
  clear z25
  refine stepV 26 (o := ⟨some 102, Op.pick (Operand.tmp 96) (Operand.const (Value.bool true)) (Operand.tmp 101), 4, "law.go:107", #[⟨20, Ground.data⟩, ⟨25, Ground.data⟩], none⟩) (v := .bool false) (d := 102) (listed' := #[true, true, true, true, true, true, true, true, true, true, true, true, true, true, true, true, true, true, true, true, true, true, true, true, true, true, true, false, false, false, false, false, false, false, false, false, false, false, false, false, false, false, false, false, false, false, false, false, false, false, false, false, false, false, false, false, false, false, false, false, false, false, false, false, false, false, false, false, false, false, false, false]) (by rw [hO]; rfl) rfl hns (by rw [hO]; kernel_rfl) (by rw [hO]; kernel_rfl) (by kernel_rfl) hQ (trivial) s10 (fun w _ => rn_pick q96_26 q101_26 w) ?_
  intro b27 e27
  have q3_27 := q3_26.mv e27 rfl
  have q4_27 := q4_26.mv e27 rfl
  have q5_27 := q5_26.mv e27 rfl
  have q6_27 := q6_26.mv e27 rfl
  have z27 : b27.tmps.size = 167 := (e27 ▸ size_put _ _ _).trans z26
  have q102_27 : At b27 102 (.bool false) := e27 ▸ At.eq (by rw [z26]; decide)
  clear q101_26 q3_26 q4_26 q5_26 q6_26 q96_26
  clear z26
  refine stepV 27 (o := ⟨some 103, Op.move (Operand.tmp 102), 4, "law.go:107", #[⟨26, Ground.data⟩, ⟨24, Ground.chain⟩], none⟩) (v := .bool false) (d := 103) (listed' := #[true, true, true, true, true, true, true, true, true, true, true, true, true, true, true, true, true, true, true, true, true, true, true, true, true, true, true, true, false, false, false, false, false, false, false, false, false, false, false, false, false, false, false, false, false, false, false, false, false, false, false, false, false, false, false, false, false, false, false, false, false, false, false, false, false, false, false, false, false, false, false, false]) (by rw [hO]; rfl) rfl hns (by rw [hO]; kernel_rfl) (by rw [hO]; kernel_rfl) (by kernel_rfl) hQ (trivial) s10 (fun w _ => rn_move q102_27 rfl w) ?_
  intro b28 e28
  have q3_28 := q3_27.mv e28 rfl
  have q4_28 := q4_27.mv e28 rfl
  have q5_28 := q5_27.mv e28 rfl
  have q6_28 := q6_27.mv e28 rfl
  have z28 : b28.tmps.size = 167 := (e28 ▸ size_put _ _ _).trans z27
  have q103_28 : At b28 103 (.bool false) := e28 ▸ At.eq (by rw [z27]; decide)
  clear q102_27 q3_27 q4_27 q5_27 q6_27
  clear z27
  refine stepV 28 (o := ⟨some 104, Op.move (Operand.tmp 4), 24, "law.go:107", #[⟨27, Ground.guard⟩], some (27, false)⟩) (v := .pointer (some ⟨t, 0, none⟩)) (d := 104) (listed' := #[true, true, true, true, true, true, true, true, true, true, true, true, true, true, true, true, true, true, true, true, true, true, true, true, true, true, true, true, true, false, false, false, false, false, false, false, false, false, false, false, false, false, false, false, false, false, false, false, false, false, false, false, false, false, false, false, false, false, false, false, false, false, false, false, false, false, false, false, false, false, false, false]) (by rw [hO]; rfl) rfl hns (by rw [hO]; kernel_rfl) (by rw [hO]; kernel_rfl) (by kernel_rfl) hQ ⟨103, by rw [hO]; rfl, q103_28⟩ s10 (fun w _ => rn_move q4_28 rfl w) ?_
  intro b29 e29
  have q3_29 := q3_28.mv e29 rfl
  have q4_29 := q4_28.mv e29 rfl
  have q5_29 := q5_28.mv e29 rfl
  have q6_29 := q6_28.mv e29 rfl
  have q103_29 := q103_28.mv e29 rfl
  have z29 : b29.tmps.size = 167 := (e29 ▸ size_put _ _ _).trans z28
  have q104_29 : At b29 104 (.pointer (some ⟨t, 0, none⟩)) := e29 ▸ At.eq (by rw [z28]; decide)
  clear q103_28 q3_28 q4_28 q5_28 q6_28
  clear z28
  refine stepV 29 (o := ⟨some 105, Op.move (Operand.tmp 3), 22, "law.go:107", #[⟨27, Ground.guard⟩], some (27, false)⟩) (v := .slice (some ⟨g, 0, none⟩) len c1) (d := 105) (listed' := #[true, true, true, true, true, true, true, true, true, true, true, true, true, true, true, true, true, true, true, true, true, true, true, true, true, true, true, true, true, true, false, false, false, false, false, false, false, false, false, false, false, false, false, false, false, false, false, false, false, false, false, false, false, false, false, false, false, false, false, false, false, false, false, false, false, false, false, false, false, false, false, false]) (by rw [hO]; rfl) rfl hns (by rw [hO]; kernel_rfl) (by rw [hO]; kernel_rfl) (by kernel_rfl) hQ ⟨103, by rw [hO]; rfl, q103_29⟩ s10 (fun w _ => rn_move q3_29 rfl w) ?_
  intro b30 e30
  have q3_30 := q3_29.mv e30 rfl
  have q4_30 := q4_29.mv e30 rfl
  have q5_30 := q5_29.mv e30 rfl
  have q6_30 := q6_29.mv e30 rfl
  have q103_30 := q103_29.mv e30 rfl
  have q104_30 := q104_29.mv e30 rfl
  have z30 : b30.tmps.size = 167 := (e30 ▸ size_put _ _ _).trans z29
  have q105_30 : At b30 105 (.slice (some ⟨g, 0, none⟩) len c1) := e30 ▸ At.eq (by rw [z29]; decide)
  clear q103_29 q104_29 q3_29 q4_29 q5_29 q6_29
  clear z29
  refine stepV 30 (o := ⟨some 106, Op.move (Operand.tmp 6), 3, "law.go:107", #[⟨27, Ground.guard⟩], some (27, false)⟩) (v := .int .i64 k) (d := 106) (listed' := #[true, true, true, true, true, true, true, true, true, true, true, true, true, true, true, true, true, true, true, true, true, true, true, true, true, true, true, true, true, true, true, false, false, false, false, false, false, false, false, false, false, false, false, false, false, false, false, false, false, false, false, false, false, false, false, false, false, false, false, false, false, false, false, false, false, false, false, false, false, false, false, false]) (by rw [hO]; rfl) rfl hns (by rw [hO]; kernel_rfl) (by rw [hO]; kernel_rfl) (by kernel_rfl) hQ ⟨103, by rw [hO]; rfl, q103_30⟩ s10 (fun w _ => rn_move q6_30 rfl w) ?_
  intro b31 e31
  have q3_31 := q3_30.mv e31 rfl
  have q4_31 := q4_30.mv e31 rfl
  have q5_31 := q5_30.mv e31 rfl
  have q6_31 := q6_30.mv e31 rfl
  have q103_31 := q103_30.mv e31 rfl
  have q104_31 := q104_30.mv e31 rfl
  have q105_31 := q105_30.mv e31 rfl
  have z31 : b31.tmps.size = 167 := (e31 ▸ size_put _ _ _).trans z30
  have q106_31 : At b31 106 (.int .i64 k) := e31 ▸ At.eq (by rw [z30]; decide)
  clear q103_30 q104_30 q105_30 q3_30 q4_30 q5_30 q6_30
  clear z30
  refine stepV 31 (o := ⟨some 107, Op.indexAddr 22 (Operand.tmp 105) (Operand.tmp 106), 0, "law.go:107", #[⟨29, Ground.data⟩, ⟨30, Ground.data⟩, ⟨27, Ground.guard⟩], some (27, false)⟩) (v := .pointer (some ⟨g, k * 4, none⟩)) (d := 107) (listed' := #[true, true, true, true, true, true, true, true, true, true, true, true, true, true, true, true, true, true, true, true, true, true, true, true, true, true, true, true, true, true, true, true, false, false, false, false, false, false, false, false, false, false, false, false, false, false, false, false, false, false, false, false, false, false, false, false, false, false, false, false, false, false, false, false, false, false, false, false, false, false, false, false]) (by rw [hO]; rfl) rfl hns (by rw [hO]; kernel_rfl) (by rw [hO]; kernel_rfl) (by kernel_rfl) hQ ⟨103, by rw [hO]; rfl, q103_31⟩ s10 (fun w _ => rn_idx q105_31 q106_31 hk w) ?_
  intro b32 e32
  have q3_32 := q3_31.mv e32 rfl
  have q4_32 := q4_31.mv e32 rfl
  have q5_32 := q5_31.mv e32 rfl
  have q6_32 := q6_31.mv e32 rfl
  have q103_32 := q103_31.mv e32 rfl
  have q104_32 := q104_31.mv e32 rfl
  have z32 : b32.tmps.size = 167 := (e32 ▸ size_put _ _ _).trans z31
  have q107_32 : At b32 107 (.pointer (some ⟨g, k * 4, none⟩)) := e32 ▸ At.eq (by rw [z31]; decide)
  clear q103_31 q104_31 q105_31 q106_31 q3_31 q4_31 q5_31 q6_31
  clear z31
  refine stepV 32 (o := ⟨some 108, Op.fieldAddr 31 (Operand.tmp 107) 2, 0, "law.go:107", #[⟨31, Ground.data⟩, ⟨27, Ground.guard⟩], some (27, false)⟩) (v := .pointer (some ⟨g, k * 4 + 2, none⟩)) (d := 108) (listed' := #[true, true, true, true, true, true, true, true, true, true, true, true, true, true, true, true, true, true, true, true, true, true, true, true, true, true, true, true, true, true, true, true, true, false, false, false, false, false, false, false, false, false, false, false, false, false, false, false, false, false, false, false, false, false, false, false, false, false, false, false, false, false, false, false, false, false, false, false, false, false, false, false]) (by rw [hO]; rfl) rfl hns (by rw [hO]; kernel_rfl) (by rw [hO]; kernel_rfl) (by kernel_rfl) hQ ⟨103, by rw [hO]; rfl, q103_32⟩ s10 (fun w _ => rn_fld 2 (by decide) q107_32 w) ?_
  intro b33 e33
  have q3_33 := q3_32.mv e33 rfl
  have q4_33 := q4_32.mv e33 rfl
  have q5_33 := q5_32.mv e33 rfl
  have q6_33 := q6_32.mv e33 rfl
  have q103_33 := q103_32.mv e33 rfl
  have q104_33 := q104_32.mv e33 rfl
  have z33 : b33.tmps.size = 167 := (e33 ▸ size_put _ _ _).trans z32
  have q108_33 : At b33 108 (.pointer (some ⟨g, k * 4 + 2, none⟩)) := e33 ▸ At.eq (by rw [z32]; decide)
  clear q103_32 q104_32 q107_32 q3_32 q4_32 q5_32 q6_32
  clear z32
  refine stepV 33 (o := ⟨some 109, Op.load 3 (Operand.tmp 108), 3, "law.go:107", #[⟨32, Ground.data⟩, ⟨27, Ground.guard⟩], some (27, false)⟩) (v := .int .i64 oI) (d := 109) (listed' := #[true, true, true, true, true, true, true, true, true, true, true, true, true, true, true, true, true, true, true, true, true, true, true, true, true, true, true, true, true, true, true, true, true, true, false, false, false, false, false, false, false, false, false, false, false, false, false, false, false, false, false, false, false, false, false, false, false, false, false, false, false, false, false, false, false, false, false, false, false, false, false, false]) (by rw [hO]; rfl) rfl hns (by rw [hO]; kernel_rfl) (by rw [hO]; kernel_rfl) (by kernel_rfl) hQ ⟨103, by rw [hO]; rfl, q103_33⟩ s10 (fun w hs => rn_ldi q108_33 w hs.2.1) ?_
  intro b34 e34
  have q3_34 := q3_33.mv e34 rfl
  have q4_34 := q4_33.mv e34 rfl
  have q5_34 := q5_33.mv e34 rfl
  have q6_34 := q6_33.mv e34 rfl
  have q103_34 := q103_33.mv e34 rfl
  have q104_34 := q104_33.mv e34 rfl
  have z34 : b34.tmps.size = 167 := (e34 ▸ size_put _ _ _).trans z33
  have q109_34 : At b34 109 (.int .i64 oI) := e34 ▸ At.eq (by rw [z33]; decide)
  clear q103_33 q104_33 q108_33 q3_33 q4_33 q5_33 q6_33
  clear z33
  refine stepV 35 (o := ⟨some 111, Op.move (Operand.tmp 5), 26, "law.go:107", #[⟨27, Ground.guard⟩], some (27, false)⟩) (v := .pointer (some ⟨r, 0, none⟩)) (d := 111) (listed' := #[true, true, true, true, true, true, true, true, true, true, true, true, true, true, true, true, true, true, true, true, true, true, true, true, true, true, true, true, true, true, true, true, true, true, false, true, false, false, false, false, false, false, false, false, false, false, false, false, false, false, false, false, false, false, false, false, false, false, false, false, false, false, false, false, false, false, false, false, false, false, false, false]) (by rw [hO]; rfl) rfl hns (by rw [hO]; kernel_rfl) (by rw [hO]; kernel_rfl) (by kernel_rfl) hQ ⟨103, by rw [hO]; rfl, q103_34⟩ s10 (fun w _ => rn_move q5_34 rfl w) ?_
  intro b35 e35
  have q3_35 := q3_34.mv e35 rfl
  have q4_35 := q4_34.mv e35 rfl
  have q5_35 := q5_34.mv e35 rfl
  have q6_35 := q6_34.mv e35 rfl
  have q103_35 := q103_34.mv e35 rfl
  have q104_35 := q104_34.mv e35 rfl
  have q109_35 := q109_34.mv e35 rfl
  have z35 : b35.tmps.size = 167 := (e35 ▸ size_put _ _ _).trans z34
  have q111_35 : At b35 111 (.pointer (some ⟨r, 0, none⟩)) := e35 ▸ At.eq (by rw [z34]; decide)
  clear q103_34 q104_34 q109_34 q3_34 q4_34 q5_34 q6_34
  clear z34
  refine stepV 36 (o := ⟨some 112, Op.move (Operand.tmp 3), 22, "law.go:107", #[⟨27, Ground.guard⟩], some (27, false)⟩) (v := .slice (some ⟨g, 0, none⟩) len c1) (d := 112) (listed' := #[true, true, true, true, true, true, true, true, true, true, true, true, true, true, true, true, true, true, true, true, true, true, true, true, true, true, true, true, true, true, true, true, true, true, false, true, true, false, false, false, false, false, false, false, false, false, false, false, false, false, false, false, false, false, false, false, false, false, false, false, false, false, false, false, false, false, false, false, false, false, false, false]) (by rw [hO]; rfl) rfl hns (by rw [hO]; kernel_rfl) (by rw [hO]; kernel_rfl) (by kernel_rfl) hQ ⟨103, by rw [hO]; rfl, q103_35⟩ s10 (fun w _ => rn_move q3_35 rfl w) ?_
  intro b36 e36
  have q3_36 := q3_35.mv e36 rfl
  have q4_36 := q4_35.mv e36 rfl
  have q5_36 := q5_35.mv e36 rfl
  have q6_36 := q6_35.mv e36 rfl
  have q103_36 := q103_35.mv e36 rfl
  have q104_36 := q104_35.mv e36 rfl
  have q109_36 := q109_35.mv e36 rfl
  have q111_36 := q111_35.mv e36 rfl
  have z36 : b36.tmps.size = 167 := (e36 ▸ size_put _ _ _).trans z35
  have q112_36 : At b36 112 (.slice (some ⟨g, 0, none⟩) len c1) := e36 ▸ At.eq (by rw [z35]; decide)
  clear q103_35 q104_35 q109_35 q111_35 q3_35 q4_35 q5_35 q6_35
  clear z35
  refine stepV 37 (o := ⟨some 113, Op.move (Operand.tmp 6), 3, "law.go:107", #[⟨27, Ground.guard⟩], some (27, false)⟩) (v := .int .i64 k) (d := 113) (listed' := #[true, true, true, true, true, true, true, true, true, true, true, true, true, true, true, true, true, true, true, true, true, true, true, true, true, true, true, true, true, true, true, true, true, true, false, true, true, true, false, false, false, false, false, false, false, false, false, false, false, false, false, false, false, false, false, false, false, false, false, false, false, false, false, false, false, false, false, false, false, false, false, false]) (by rw [hO]; rfl) rfl hns (by rw [hO]; kernel_rfl) (by rw [hO]; kernel_rfl) (by kernel_rfl) hQ ⟨103, by rw [hO]; rfl, q103_36⟩ s10 (fun w _ => rn_move q6_36 rfl w) ?_
  intro b37 e37
  have q3_37 := q3_36.mv e37 rfl
  have q4_37 := q4_36.mv e37 rfl
  have q5_37 := q5_36.mv e37 rfl
  have q6_37 := q6_36.mv e37 rfl
  have q103_37 := q103_36.mv e37 rfl
  have q104_37 := q104_36.mv e37 rfl
  have q109_37 := q109_36.mv e37 rfl
  have q111_37 := q111_36.mv e37 rfl
  have q112_37 := q112_36.mv e37 rfl
  have z37 : b37.tmps.size = 167 := (e37 ▸ size_put _ _ _).trans z36
  have q113_37 : At b37 113 (.int .i64 k) := e37 ▸ At.eq (by rw [z36]; decide)
  clear q103_36 q104_36 q109_36 q111_36 q112_36 q3_36 q4_36 q5_36 q6_36
  clear z36
  refine stepV 38 (o := ⟨some 114, Op.indexAddr 22 (Operand.tmp 112) (Operand.tmp 113), 0, "law.go:107", #[⟨36, Ground.data⟩, ⟨37, Ground.data⟩, ⟨27, Ground.guard⟩], some (27, false)⟩) (v := .pointer (some ⟨g, k * 4, none⟩)) (d := 114) (listed' := #[true, true, true, true, true, true, true, true, true, true, true, true, true, true, true, true, true, true, true, true, true, true, true, true, true, true, true, true, true, true, true, true, true, true, false, true, true, true, true, false, false, false, false, false, false, false, false, false, false, false, false, false, false, false, false, false, false, false, false, false, false, false, false, false, false, false, false, false, false, false, false, false]) (by rw [hO]; rfl) rfl hns (by rw [hO]; kernel_rfl) (by rw [hO]; kernel_rfl) (by kernel_rfl) hQ ⟨103, by rw [hO]; rfl, q103_37⟩ s10 (fun w _ => rn_idx q112_37 q113_37 hk w) ?_
  intro b38 e38
  have q3_38 := q3_37.mv e38 rfl
  have q4_38 := q4_37.mv e38 rfl
  have q5_38 := q5_37.mv e38 rfl
  have q6_38 := q6_37.mv e38 rfl
  have q103_38 := q103_37.mv e38 rfl
  have q104_38 := q104_37.mv e38 rfl
  have q109_38 := q109_37.mv e38 rfl
  have q111_38 := q111_37.mv e38 rfl
  have z38 : b38.tmps.size = 167 := (e38 ▸ size_put _ _ _).trans z37
  have q114_38 : At b38 114 (.pointer (some ⟨g, k * 4, none⟩)) := e38 ▸ At.eq (by rw [z37]; decide)
  clear q103_37 q104_37 q109_37 q111_37 q112_37 q113_37 q3_37 q4_37 q5_37 q6_37
  clear z37
  refine stepV 39 (o := ⟨some 115, Op.fieldAddr 31 (Operand.tmp 114) 2, 0, "law.go:107", #[⟨38, Ground.data⟩, ⟨27, Ground.guard⟩], some (27, false)⟩) (v := .pointer (some ⟨g, k * 4 + 2, none⟩)) (d := 115) (listed' := #[true, true, true, true, true, true, true, true, true, true, true, true, true, true, true, true, true, true, true, true, true, true, true, true, true, true, true, true, true, true, true, true, true, true, false, true, true, true, true, true, false, false, false, false, false, false, false, false, false, false, false, false, false, false, false, false, false, false, false, false, false, false, false, false, false, false, false, false, false, false, false, false]) (by rw [hO]; rfl) rfl hns (by rw [hO]; kernel_rfl) (by rw [hO]; kernel_rfl) (by kernel_rfl) hQ ⟨103, by rw [hO]; rfl, q103_38⟩ s10 (fun w _ => rn_fld 2 (by decide) q114_38 w) ?_
  intro b39 e39
  have q3_39 := q3_38.mv e39 rfl
  have q4_39 := q4_38.mv e39 rfl
  have q5_39 := q5_38.mv e39 rfl
  have q6_39 := q6_38.mv e39 rfl
  have q103_39 := q103_38.mv e39 rfl
  have q104_39 := q104_38.mv e39 rfl
  have q109_39 := q109_38.mv e39 rfl
  have q111_39 := q111_38.mv e39 rfl
  have z39 : b39.tmps.size = 167 := (e39 ▸ size_put _ _ _).trans z38
  have q115_39 : At b39 115 (.pointer (some ⟨g, k * 4 + 2, none⟩)) := e39 ▸ At.eq (by rw [z38]; decide)
  clear q103_38 q104_38 q109_38 q111_38 q114_38 q3_38 q4_38 q5_38 q6_38
  clear z38
  refine stepV 40 (o := ⟨some 116, Op.load 3 (Operand.tmp 115), 3, "law.go:107", #[⟨39, Ground.data⟩, ⟨27, Ground.guard⟩], some (27, false)⟩) (v := .int .i64 oI) (d := 116) (listed' := #[true, true, true, true, true, true, true, true, true, true, true, true, true, true, true, true, true, true, true, true, true, true, true, true, true, true, true, true, true, true, true, true, true, true, false, true, true, true, true, true, true, false, false, false, false, false, false, false, false, false, false, false, false, false, false, false, false, false, false, false, false, false, false, false, false, false, false, false, false, false, false, false]) (by rw [hO]; rfl) rfl hns (by rw [hO]; kernel_rfl) (by rw [hO]; kernel_rfl) (by kernel_rfl) hQ ⟨103, by rw [hO]; rfl, q103_39⟩ s10 (fun w hs => rn_ldi q115_39 w hs.2.1) ?_
  intro b40 e40
  have q3_40 := q3_39.mv e40 rfl
  have q4_40 := q4_39.mv e40 rfl
  have q5_40 := q5_39.mv e40 rfl
  have q6_40 := q6_39.mv e40 rfl
  have q103_40 := q103_39.mv e40 rfl
  have q104_40 := q104_39.mv e40 rfl
  have q109_40 := q109_39.mv e40 rfl
  have q111_40 := q111_39.mv e40 rfl
  have z40 : b40.tmps.size = 167 := (e40 ▸ size_put _ _ _).trans z39
  have q116_40 : At b40 116 (.int .i64 oI) := e40 ▸ At.eq (by rw [z39]; decide)
  clear q103_39 q104_39 q109_39 q111_39 q115_39 q3_39 q4_39 q5_39 q6_39
  clear z39
  refine stepC 34 (o := ⟨some 110, Op.call { callee := Callee.value (Operand.func 17), args := #[Operand.tmp 104, Operand.tmp 109], argTypes := #[24, 3] }, 40, "law.go:107", #[⟨28, Ground.data⟩, ⟨33, Ground.data⟩, ⟨27, Ground.chain⟩, ⟨27, Ground.guard⟩], some (27, false)⟩) (d := 110) (listed' := #[true, true, true, true, true, true, true, true, true, true, true, true, true, true, true, true, true, true, true, true, true, true, true, true, true, true, true, true, true, true, true, true, true, true, true, true, true, true, true, true, true, false, false, false, false, false, false, false, false, false, false, false, false, false, false, false, false, false, false, false, false, false, false, false, false, false, false, false, false, false, false, false]) (by rw [hO]; rfl) rfl (by rw [hO]; kernel_rfl) (by kernel_rfl) ⟨103, by rw [hO]; rfl, q103_40⟩ (rn_c17 q104_40 q109_40 _) ?_
  refine C.mono ?_
  clear C
  rintro e w11 ⟨v11, rfl, s11, C⟩
  refine ⟨_, rfl, s11, ?_⟩
  intro b41 e41
  have q3_41 := q3_40.mv e41 rfl
  have q4_41 := q4_40.mv e41 rfl
  have q5_41 := q5_40.mv e41 rfl
  have q6_41 := q6_40.mv e41 rfl
  have q103_41 := q103_40.mv e41 rfl
  have q111_41 := q111_40.mv e41 rfl
  have q116_41 := q116_40.mv e41 rfl
  have z41 : b41.tmps.size = 167 := (e41 ▸ size_put _ _ _).trans z40
  have q110_41 : At b41 110 (v11) := e41 ▸ At.eq (by rw [z40]; decide)
  clear q103_40 q104_40 q109_40 q111_40 q116_40 q3_40 q4_40 q5_40 q6_40
  clear z40
  refine stepC 41 (o := ⟨some 117, Op.call { callee := Callee.value (Operand.func 18), args := #[Operand.tmp 111, Operand.tmp 116], argTypes := #[26, 3] }, 40, "law.go:107", #[⟨35, Ground.data⟩, ⟨40, Ground.data⟩, ⟨34, Ground.chain⟩, ⟨27, Ground.guard⟩], some (27, false)⟩) (d := 117) (listed' := #[true, true, true, true, true, true, true, true, true, true, true, true, true, true, true, true, true, true, true, true, true, true, true, true, true, true, true, true, true, true, true, true, true, true, true, true, true, true, true, true, true, true, false, false, false, false, false, false, false, false, false, false, false, false, false, false, false, false, false, false, false, false, false, false, false, false, false, false, false, false, false, false]) (by rw [hO]; rfl) rfl (by rw [hO]; kernel_rfl) (by kernel_rfl) ⟨103, by rw [hO]; rfl, q103_41⟩ (rn_c18 q111_41 q116_41 _) ?_
  refine C.mono ?_
  clear C
  rintro e w12 ⟨v12, rfl, s12, C⟩
  refine ⟨_, rfl, s12, ?_⟩
  intro b42 e42
  have q3_42 := q3_41.mv e42 rfl
  have q4_42 := q4_41.mv e42 rfl
  have q5_42 := q5_41.mv e42 rfl
  have q6_42 := q6_41.mv e42 rfl
  have q103_42 := q103_41.mv e42 rfl
  have q110_42 := q110_41.mv e42 rfl
  have z42 : b42.tmps.size = 167 := (e42 ▸ size_put _ _ _).trans z41
  have q117_42 : At b42 117 (v12) := e42 ▸ At.eq (by rw [z41]; decide)
  clear q103_41 q110_41 q111_41 q116_41 q3_41 q4_41 q5_41 q6_41
  clear z41
  refine stepC 42 (o := ⟨some 118, Op.call { callee := Callee.value (Operand.func 15), args := #[Operand.tmp 110, Operand.tmp 117], argTypes := #[40, 40] }, 4, "law.go:107", #[⟨34, Ground.data⟩, ⟨41, Ground.data⟩, ⟨41, Ground.chain⟩, ⟨27, Ground.guard⟩], some (27, false)⟩) (d := 118) (listed' := #[true, true, true, true, true, true, true, true, true, true, true, true, true, true, true, true, true, true, true, true, true, true, true, true, true, true, true, true, true, true, true, true, true, true, true, true, true, true, true, true, true, true, true, false, false, false, false, false, false, false, false, false, false, false, false, false, false, false, false, false, false, false, false, false, false, false, false, false, false, false, false, false]) (by rw [hO]; rfl) rfl (by rw [hO]; kernel_rfl) (by kernel_rfl) ⟨103, by rw [hO]; rfl, q103_42⟩ (rn_c15 q110_42 q117_42 _) ?_
  refine C.mono ?_
  clear C
  rintro e w13 ⟨rfl, s13, C⟩
  refine ⟨_, rfl, s13, ?_⟩
  intro b43 e43
  have q3_43 := q3_42.mv e43 rfl
  have q4_43 := q4_42.mv e43 rfl
  have q5_43 := q5_42.mv e43 rfl
  have q6_43 := q6_42.mv e43 rfl
  have q103_43 := q103_42.mv e43 rfl
  have z43 : b43.tmps.size = 167 := (e43 ▸ size_put _ _ _).trans z42
  have q118_43 : At b43 118 (.bool true) := e43 ▸ At.eq (by rw [z42]; decide)
  clear q103_42 q110_42 q117_42 q3_42 q4_42 q5_42 q6_42
  clear z42
  refine stepV 43 (o := ⟨some 119, Op.unOp UnOp.not 4 (Operand.tmp 118), 4, "law.go:107", #[⟨42, Ground.data⟩, ⟨27, Ground.guard⟩], some (27, false)⟩) (v := .bool false) (d := 119) (listed' := #[true, true, true, true, true, true, true, true, true, true, true, true, true, true, true, true, true, true, true, true, true, true, true, true, true, true, true, true, true, true, true, true, true, true, true, true, true, true, true, true, true, true, true, true, false, false, false, false, false, false, false, false, false, false, false, false, false, false, false, false, false, false, false, false, false, false, false, false, false, false, false, false]) (by rw [hO]; rfl) rfl hns (by rw [hO]; kernel_rfl) (by rw [hO]; kernel_rfl) (by kernel_rfl) hQ ⟨103, by rw [hO]; rfl, q103_43⟩ s13 (fun w _ => rn_not q118_43 w) ?_
  intro b44 e44
  have q3_44 := q3_43.mv e44 rfl
  have q4_44 := q4_43.mv e44 rfl
  have q5_44 := q5_43.mv e44 rfl
  have q6_44 := q6_43.mv e44 rfl
  have q103_44 := q103_43.mv e44 rfl
  have z44 : b44.tmps.size = 167 := (e44 ▸ size_put _ _ _).trans z43
  have q119_44 : At b44 119 (.bool false) := e44 ▸ At.eq (by rw [z43]; decide)
  clear q103_43 q118_43 q3_43 q4_43 q5_43 q6_43
  clear z43
  refine stepV 44 (o := ⟨some 120, Op.pick (Operand.tmp 103) (Operand.const (Value.bool true)) (Operand.tmp 119), 4, "law.go:107", #[⟨27, Ground.data⟩, ⟨43, Ground.data⟩], none⟩) (v := .bool false) (d := 120) (listed' := #[true, true, true, true, true, true, true, true, true, true, true, true, true, true, true, true, true, true, true, true, true, true, true, true, true, true, true, true, true, true, true, true, true, true, true, true, true, true, true, true, true, true, true, true, true, false, false, false, false, false, false, false, false, false, false, false, false, false, false, false, false, false, false, false, false, false, false, false, false, false, false, false]) (by rw [hO]; rfl) rfl hns (by rw [hO]; kernel_rfl) (by rw [hO]; kernel_rfl) (by kernel_rfl) hQ (trivial) s13 (fun w _ => rn_pick q103_44 q119_44 w) ?_
  intro b45 e45
  have q3_45 := q3_44.mv e45 rfl
  have q4_45 := q4_44.mv e45 rfl
  have q5_45 := q5_44.mv e45 rfl
  have q6_45 := q6_44.mv e45 rfl
  have z45 : b45.tmps.size = 167 := (e45 ▸ size_put _ _ _).trans z44
  have q120_45 : At b45 120 (.bool false) := e45 ▸ At.eq (by rw [z44]; decide)
  clear q103_44 q119_44 q3_44 q4_44 q5_44 q6_44
  clear z44
  refine stepV 45 (o := ⟨some 121, Op.move (Operand.tmp 120), 4, "law.go:107", #[⟨44, Ground.data⟩, ⟨42, Ground.chain⟩], none⟩) (v := .bool false) (d := 121) (listed' := #[true, true, true, true, true, true, true, true, true, true, true, true, true, true, true, true, true, true, true, true, true, true, true, true, true, true, true, true, true, true, true, true, true, true, true, true, true, true, true, true, true, true, true, true, true, true, false, false, false, false, false, false, false, false, false, false, false, false, false, false, false, false, false, false, false, false, false, false, false, false, false, false]) (by rw [hO]; rfl) rfl hns (by rw [hO]; kernel_rfl) (by rw [hO]; kernel_rfl) (by kernel_rfl) hQ (trivial) s13 (fun w _ => rn_move q120_45 rfl w) ?_
  intro b46 e46
  have q3_46 := q3_45.mv e46 rfl
  have q4_46 := q4_45.mv e46 rfl
  have q5_46 := q5_45.mv e46 rfl
  have q6_46 := q6_45.mv e46 rfl
  have z46 : b46.tmps.size = 167 := (e46 ▸ size_put _ _ _).trans z45
  have q121_46 : At b46 121 (.bool false) := e46 ▸ At.eq (by rw [z45]; decide)
  clear q120_45 q3_45 q4_45 q5_45 q6_45
  clear z45
  refine stepV 46 (o := ⟨some 122, Op.move (Operand.tmp 4), 24, "law.go:107", #[⟨45, Ground.guard⟩], some (45, false)⟩) (v := .pointer (some ⟨t, 0, none⟩)) (d := 122) (listed' := #[true, true, true, true, true, true, true, true, true, true, true, true, true, true, true, true, true, true, true, true, true, true, true, true, true, true, true, true, true, true, true, true, true, true, true, true, true, true, true, true, true, true, true, true, true, true, true, false, false, false, false, false, false, false, false, false, false, false, false, false, false, false, false, false, false, false, false, false, false, false, false, false]) (by rw [hO]; rfl) rfl hns (by rw [hO]; kernel_rfl) (by rw [hO]; kernel_rfl) (by kernel_rfl) hQ ⟨121, by rw [hO]; rfl, q121_46⟩ s13 (fun w _ => rn_move q4_46 rfl w) ?_
  intro b47 e47
  have q3_47 := q3_46.mv e47 rfl
  have q5_47 := q5_46.mv e47 rfl
  have q6_47 := q6_46.mv e47 rfl
  have q121_47 := q121_46.mv e47 rfl
  have z47 : b47.tmps.size = 167 := (e47 ▸ size_put _ _ _).trans z46
  have q122_47 : At b47 122 (.pointer (some ⟨t, 0, none⟩)) := e47 ▸ At.eq (by rw [z46]; decide)
  clear q121_46 q3_46 q4_46 q5_46 q6_46
  clear z46
  refine stepV 47 (o := ⟨some 123, Op.move (Operand.tmp 3), 22, "law.go:107", #[⟨45, Ground.guard⟩], some (45, false)⟩) (v := .slice (some ⟨g, 0, none⟩) len c1) (d := 123) (listed' := #[true, true, true, true, true, true, true, true, true, true, true, true, true, true, true, true, true, true, true, true, true, true, true, true, true, true, true, true, true, true, true, true, true, true, true, true, true, true, true, true, true, true, true, true, true, true, true, true, false, false, false, false, false, false, false, false, false, false, false, false, false, false, false, false, false, false, false, false, false, false, false, false]) (by rw [hO]; rfl) rfl hns (by rw [hO]; kernel_rfl) (by rw [hO]; kernel_rfl) (by kernel_rfl) hQ ⟨121, by rw [hO]; rfl, q121_47⟩ s13 (fun w _ => rn_move q3_47 rfl w) ?_
  intro b48 e48
  have q3_48 := q3_47.mv e48 rfl
  have q5_48 := q5_47.mv e48 rfl
  have q6_48 := q6_47.mv e48 rfl
  have q121_48 := q121_47.mv e48 rfl
  have q122_48 := q122_47.mv e48 rfl
  have z48 : b48.tmps.size = 167 := (e48 ▸ size_put _ _ _).trans z47
  have q123_48 : At b48 123 (.slice (some ⟨g, 0, none⟩) len c1) := e48 ▸ At.eq (by rw [z47]; decide)
  clear q121_47 q122_47 q3_47 q5_47 q6_47
  clear z47
  refine stepV 48 (o := ⟨some 124, Op.move (Operand.tmp 6), 3, "law.go:107", #[⟨45, Ground.guard⟩], some (45, false)⟩) (v := .int .i64 k) (d := 124) (listed' := #[true, true, true, true, true, true, true, true, true, true, true, true, true, true, true, true, true, true, true, true, true, true, true, true, true, true, true, true, true, true, true, true, true, true, true, true, true, true, true, true, true, true, true, true, true, true, true, true, true, false, false, false, false, false, false, false, false, false, false, false, false, false, false, false, false, false, false, false, false, false, false, false]) (by rw [hO]; rfl) rfl hns (by rw [hO]; kernel_rfl) (by rw [hO]; kernel_rfl) (by kernel_rfl) hQ ⟨121, by rw [hO]; rfl, q121_48⟩ s13 (fun w _ => rn_move q6_48 rfl w) ?_
  intro b49 e49
  have q3_49 := q3_48.mv e49 rfl
  have q5_49 := q5_48.mv e49 rfl
  have q6_49 := q6_48.mv e49 rfl
  have q121_49 := q121_48.mv e49 rfl
  have q122_49 := q122_48.mv e49 rfl
  have q123_49 := q123_48.mv e49 rfl
  have z49 : b49.tmps.size = 167 := (e49 ▸ size_put _ _ _).trans z48
  have q124_49 : At b49 124 (.int .i64 k) := e49 ▸ At.eq (by rw [z48]; decide)
  clear q121_48 q122_48 q123_48 q3_48 q5_48 q6_48
  clear z48
  refine stepV 49 (o := ⟨some 125, Op.indexAddr 22 (Operand.tmp 123) (Operand.tmp 124), 0, "law.go:107", #[⟨47, Ground.data⟩, ⟨48, Ground.data⟩, ⟨45, Ground.guard⟩], some (45, false)⟩) (v := .pointer (some ⟨g, k * 4, none⟩)) (d := 125) (listed' := #[true, true, true, true, true, true, true, true, true, true, true, true, true, true, true, true, true, true, true, true, true, true, true, true, true, true, true, true, true, true, true, true, true, true, true, true, true, true, true, true, true, true, true, true, true, true, true, true, true, true, false, false, false, false, false, false, false, false, false, false, false, false, false, false, false, false, false, false, false, false, false, false]) (by rw [hO]; rfl) rfl hns (by rw [hO]; kernel_rfl) (by rw [hO]; kernel_rfl) (by kernel_rfl) hQ ⟨121, by rw [hO]; rfl, q121_49⟩ s13 (fun w _ => rn_idx q123_49 q124_49 hk w) ?_
  intro b50 e50
  have q3_50 := q3_49.mv e50 rfl
  have q5_50 := q5_49.mv e50 rfl
  have q6_50 := q6_49.mv e50 rfl
  have q121_50 := q121_49.mv e50 rfl
  have q122_50 := q122_49.mv e50 rfl
  have z50 : b50.tmps.size = 167 := (e50 ▸ size_put _ _ _).trans z49
  have q125_50 : At b50 125 (.pointer (some ⟨g, k * 4, none⟩)) := e50 ▸ At.eq (by rw [z49]; decide)
  clear q121_49 q122_49 q123_49 q124_49 q3_49 q5_49 q6_49
  clear z49
  refine stepV 50 (o := ⟨some 126, Op.fieldAddr 31 (Operand.tmp 125) 1, 0, "law.go:107", #[⟨49, Ground.data⟩, ⟨45, Ground.guard⟩], some (45, false)⟩) (v := .pointer (some ⟨g, k * 4 + 1, none⟩)) (d := 126) (listed' := #[true, true, true, true, true, true, true, true, true, true, true, true, true, true, true, true, true, true, true, true, true, true, true, true, true, true, true, true, true, true, true, true, true, true, true, true, true, true, true, true, true, true, true, true, true, true, true, true, true, true, true, false, false, false, false, false, false, false, false, false, false, false, false, false, false, false, false, false, false, false, false, false]) (by rw [hO]; rfl) rfl hns (by rw [hO]; kernel_rfl) (by rw [hO]; kernel_rfl) (by kernel_rfl) hQ ⟨121, by rw [hO]; rfl, q121_50⟩ s13 (fun w _ => rn_fld 1 (by decide) q125_50 w) ?_
  intro b51 e51
  have q3_51 := q3_50.mv e51 rfl
  have q5_51 := q5_50.mv e51 rfl
  have q6_51 := q6_50.mv e51 rfl
  have q121_51 := q121_50.mv e51 rfl
  have q122_51 := q122_50.mv e51 rfl
  have z51 : b51.tmps.size = 167 := (e51 ▸ size_put _ _ _).trans z50
  have q126_51 : At b51 126 (.pointer (some ⟨g, k * 4 + 1, none⟩)) := e51 ▸ At.eq (by rw [z50]; decide)
  clear q121_50 q122_50 q125_50 q3_50 q5_50 q6_50
  clear z50
  refine stepV 51 (o := ⟨some 127, Op.load 9 (Operand.tmp 126), 9, "law.go:107", #[⟨50, Ground.data⟩, ⟨45, Ground.guard⟩], some (45, false)⟩) (v := .string oF) (d := 127) (listed' := #[true, true, true, true, true, true, true, true, true, true, true, true, true, true, true, true, true, true, true, true, true, true, true, true, true, true, true, true, true, true, true, true, true, true, true, true, true, true, true, true, true, true, true, true, true, true, true, true, true, true, true, true, false, false, false, false, false, false, false, false, false, false, false, false, false, false, false, false, false, false, false, false]) (by rw [hO]; rfl) rfl hns (by rw [hO]; kernel_rfl) (by rw [hO]; kernel_rfl) (by kernel_rfl) hQ ⟨121, by rw [hO]; rfl, q121_51⟩ s13 (fun w hs => rn_lds q126_51 w hs.1) ?_
  intro b52 e52
  have q3_52 := q3_51.mv e52 rfl
  have q5_52 := q5_51.mv e52 rfl
  have q6_52 := q6_51.mv e52 rfl
  have q121_52 := q121_51.mv e52 rfl
  have q122_52 := q122_51.mv e52 rfl
  have z52 : b52.tmps.size = 167 := (e52 ▸ size_put _ _ _).trans z51
  have q127_52 : At b52 127 (.string oF) := e52 ▸ At.eq (by rw [z51]; decide)
  clear q121_51 q122_51 q126_51 q3_51 q5_51 q6_51
  clear z51
  refine stepV 52 (o := ⟨some 128, Op.move (Operand.tmp 3), 22, "law.go:107", #[⟨45, Ground.guard⟩], some (45, false)⟩) (v := .slice (some ⟨g, 0, none⟩) len c1) (d := 128) (listed' := #[true, true, true, true, true, true, true, true, true, true, true, true, true, true, true, true, true, true, true, true, true, true, true, true, true, true, true, true, true, true, true, true, true, true, true, true, true, true, true, true, true, true, true, true, true, true, true, true, true, true, true, true, true, false, false, false, false, false, false, false, false, false, false, false, false, false, false, false, false, false, false, false]) (by rw [hO]; rfl) rfl hns (by rw [hO]; kernel_rfl) (by rw [hO]; kernel_rfl) (by kernel_rfl) hQ ⟨121, by rw [hO]; rfl, q121_52⟩ s13 (fun w _ => rn_move q3_52 rfl w) ?_
  intro b53 e53
  have q3_53 := q3_52.mv e53 rfl
  have q5_53 := q5_52.mv e53 rfl
  have q6_53 := q6_52.mv e53 rfl
  have q121_53 := q121_52.mv e53 rfl
  have q122_53 := q122_52.mv e53 rfl
  have q127_53 := q127_52.mv e53 rfl
  have z53 : b53.tmps.size = 167 := (e53 ▸ size_put _ _ _).trans z52
  have q128_53 : At b53 128 (.slice (some ⟨g, 0, none⟩) len c1) := e53 ▸ At.eq (by rw [z52]; decide)
  clear q121_52 q122_52 q127_52 q3_52 q5_52 q6_52
  clear z52
  refine stepV 53 (o := ⟨some 129, Op.move (Operand.tmp 6), 3, "law.go:107", #[⟨45, Ground.guard⟩], some (45, false)⟩) (v := .int .i64 k) (d := 129) (listed' := #[true, true, true, true, true, true, true, true, true, true, true, true, true, true, true, true, true, true, true, true, true, true, true, true, true, true, true, true, true, true, true, true, true, true, true, true, true, true, true, true, true, true, true, true, true, true, true, true, true, true, true, true, true, true, false, false, false, false, false, false, false, false, false, false, false, false, false, false, false, false, false, false]) (by rw [hO]; rfl) rfl hns (by rw [hO]; kernel_rfl) (by rw [hO]; kernel_rfl) (by kernel_rfl) hQ ⟨121, by rw [hO]; rfl, q121_53⟩ s13 (fun w _ => rn_move q6_53 rfl w) ?_
  intro b54 e54
  have q3_54 := q3_53.mv e54 rfl
  have q5_54 := q5_53.mv e54 rfl
  have q6_54 := q6_53.mv e54 rfl
  have q121_54 := q121_53.mv e54 rfl
  have q122_54 := q122_53.mv e54 rfl
  have q127_54 := q127_53.mv e54 rfl
  have q128_54 := q128_53.mv e54 rfl
  have z54 : b54.tmps.size = 167 := (e54 ▸ size_put _ _ _).trans z53
  have q129_54 : At b54 129 (.int .i64 k) := e54 ▸ At.eq (by rw [z53]; decide)
  clear q121_53 q122_53 q127_53 q128_53 q3_53 q5_53 q6_53
  clear z53
  refine stepV 54 (o := ⟨some 130, Op.indexAddr 22 (Operand.tmp 128) (Operand.tmp 129), 0, "law.go:107", #[⟨52, Ground.data⟩, ⟨53, Ground.data⟩, ⟨45, Ground.guard⟩], some (45, false)⟩) (v := .pointer (some ⟨g, k * 4, none⟩)) (d := 130) (listed' := #[true, true, true, true, true, true, true, true, true, true, true, true, true, true, true, true, true, true, true, true, true, true, true, true, true, true, true, true, true, true, true, true, true, true, true, true, true, true, true, true, true, true, true, true, true, true, true, true, true, true, true, true, true, true, true, false, false, false, false, false, false, false, false, false, false, false, false, false, false, false, false, false]) (by rw [hO]; rfl) rfl hns (by rw [hO]; kernel_rfl) (by rw [hO]; kernel_rfl) (by kernel_rfl) hQ ⟨121, by rw [hO]; rfl, q121_54⟩ s13 (fun w _ => rn_idx q128_54 q129_54 hk w) ?_
  intro b55 e55
  have q3_55 := q3_54.mv e55 rfl
  have q5_55 := q5_54.mv e55 rfl
  have q6_55 := q6_54.mv e55 rfl
  have q121_55 := q121_54.mv e55 rfl
  have q122_55 := q122_54.mv e55 rfl
  have q127_55 := q127_54.mv e55 rfl
  have z55 : b55.tmps.size = 167 := (e55 ▸ size_put _ _ _).trans z54
  have q130_55 : At b55 130 (.pointer (some ⟨g, k * 4, none⟩)) := e55 ▸ At.eq (by rw [z54]; decide)
  clear q121_54 q122_54 q127_54 q128_54 q129_54 q3_54 q5_54 q6_54
  clear z54
  refine stepV 55 (o := ⟨some 131, Op.fieldAddr 31 (Operand.tmp 130) 2, 0, "law.go:107", #[⟨54, Ground.data⟩, ⟨45, Ground.guard⟩], some (45, false)⟩) (v := .pointer (some ⟨g, k * 4 + 2, none⟩)) (d := 131) (listed' := #[true, true, true, true, true, true, true, true, true, true, true, true, true, true, true, true, true, true, true, true, true, true, true, true, true, true, true, true, true, true, true, true, true, true, true, true, true, true, true, true, true, true, true, true, true, true, true, true, true, true, true, true, true, true, true, true, false, false, false, false, false, false, false, false, false, false, false, false, false, false, false, false]) (by rw [hO]; rfl) rfl hns (by rw [hO]; kernel_rfl) (by rw [hO]; kernel_rfl) (by kernel_rfl) hQ ⟨121, by rw [hO]; rfl, q121_55⟩ s13 (fun w _ => rn_fld 2 (by decide) q130_55 w) ?_
  intro b56 e56
  have q3_56 := q3_55.mv e56 rfl
  have q5_56 := q5_55.mv e56 rfl
  have q6_56 := q6_55.mv e56 rfl
  have q121_56 := q121_55.mv e56 rfl
  have q122_56 := q122_55.mv e56 rfl
  have q127_56 := q127_55.mv e56 rfl
  have z56 : b56.tmps.size = 167 := (e56 ▸ size_put _ _ _).trans z55
  have q131_56 : At b56 131 (.pointer (some ⟨g, k * 4 + 2, none⟩)) := e56 ▸ At.eq (by rw [z55]; decide)
  clear q121_55 q122_55 q127_55 q130_55 q3_55 q5_55 q6_55
  clear z55
  refine stepV 56 (o := ⟨some 132, Op.load 3 (Operand.tmp 131), 3, "law.go:107", #[⟨55, Ground.data⟩, ⟨45, Ground.guard⟩], some (45, false)⟩) (v := .int .i64 oI) (d := 132) (listed' := #[true, true, true, true, true, true, true, true, true, true, true, true, true, true, true, true, true, true, true, true, true, true, true, true, true, true, true, true, true, true, true, true, true, true, true, true, true, true, true, true, true, true, true, true, true, true, true, true, true, true, true, true, true, true, true, true, true, false, false, false, false, false, false, false, false, false, false, false, false, false, false, false]) (by rw [hO]; rfl) rfl hns (by rw [hO]; kernel_rfl) (by rw [hO]; kernel_rfl) (by kernel_rfl) hQ ⟨121, by rw [hO]; rfl, q121_56⟩ s13 (fun w hs => rn_ldi q131_56 w hs.2.1) ?_
  intro b57 e57
  have q3_57 := q3_56.mv e57 rfl
  have q5_57 := q5_56.mv e57 rfl
  have q6_57 := q6_56.mv e57 rfl
  have q121_57 := q121_56.mv e57 rfl
  have q122_57 := q122_56.mv e57 rfl
  have q127_57 := q127_56.mv e57 rfl
  have z57 : b57.tmps.size = 167 := (e57 ▸ size_put _ _ _).trans z56
  have q132_57 : At b57 132 (.int .i64 oI) := e57 ▸ At.eq (by rw [z56]; decide)
  clear q121_56 q122_56 q127_56 q131_56 q3_56 q5_56 q6_56
  clear z56
  refine stepV 58 (o := ⟨some 134, Op.move (Operand.tmp 5), 26, "law.go:107", #[⟨45, Ground.guard⟩], some (45, false)⟩) (v := .pointer (some ⟨r, 0, none⟩)) (d := 134) (listed' := #[true, true, true, true, true, true, true, true, true, true, true, true, true, true, true, true, true, true, true, true, true, true, true, true, true, true, true, true, true, true, true, true, true, true, true, true, true, true, true, true, true, true, true, true, true, true, true, true, true, true, true, true, true, true, true, true, true, false, true, false, false, false, false, false, false, false, false, false, false, false, false, false]) (by rw [hO]; rfl) rfl hns (by rw [hO]; kernel_rfl) (by rw [hO]; kernel_rfl) (by kernel_rfl) hQ ⟨121, by rw [hO]; rfl, q121_57⟩ s13 (fun w _ => rn_move q5_57 rfl w) ?_
  intro b58 e58
  have q3_58 := q3_57.mv e58 rfl
  have q6_58 := q6_57.mv e58 rfl
  have q121_58 := q121_57.mv e58 rfl
  have q122_58 := q122_57.mv e58 rfl
  have q127_58 := q127_57.mv e58 rfl
  have q132_58 := q132_57.mv e58 rfl
  have z58 : b58.tmps.size = 167 := (e58 ▸ size_put _ _ _).trans z57
  have q134_58 : At b58 134 (.pointer (some ⟨r, 0, none⟩)) := e58 ▸ At.eq (by rw [z57]; decide)
  clear q121_57 q122_57 q127_57 q132_57 q3_57 q5_57 q6_57
  clear z57
  refine stepV 59 (o := ⟨some 135, Op.move (Operand.tmp 3), 22, "law.go:107", #[⟨45, Ground.guard⟩], some (45, false)⟩) (v := .slice (some ⟨g, 0, none⟩) len c1) (d := 135) (listed' := #[true, true, true, true, true, true, true, true, true, true, true, true, true, true, true, true, true, true, true, true, true, true, true, true, true, true, true, true, true, true, true, true, true, true, true, true, true, true, true, true, true, true, true, true, true, true, true, true, true, true, true, true, true, true, true, true, true, false, true, true, false, false, false, false, false, false, false, false, false, false, false, false]) (by rw [hO]; rfl) rfl hns (by rw [hO]; kernel_rfl) (by rw [hO]; kernel_rfl) (by kernel_rfl) hQ ⟨121, by rw [hO]; rfl, q121_58⟩ s13 (fun w _ => rn_move q3_58 rfl w) ?_
  intro b59 e59
  have q3_59 := q3_58.mv e59 rfl
  have q6_59 := q6_58.mv e59 rfl
  have q121_59 := q121_58.mv e59 rfl
  have q122_59 := q122_58.mv e59 rfl
  have q127_59 := q127_58.mv e59 rfl
  have q132_59 := q132_58.mv e59 rfl
  have q134_59 := q134_58.mv e59 rfl
  have z59 : b59.tmps.size = 167 := (e59 ▸ size_put _ _ _).trans z58
  have q135_59 : At b59 135 (.slice (some ⟨g, 0, none⟩) len c1) := e59 ▸ At.eq (by rw [z58]; decide)
  clear q121_58 q122_58 q127_58 q132_58 q134_58 q3_58 q6_58
  clear z58
  refine stepV 60 (o := ⟨some 136, Op.move (Operand.tmp 6), 3, "law.go:107", #[⟨45, Ground.guard⟩], some (45, false)⟩) (v := .int .i64 k) (d := 136) (listed' := #[true, true, true, true, true, true, true, true, true, true, true, true, true, true, true, true, true, true, true, true, true, true, true, true, true, true, true, true, true, true, true, true, true, true, true, true, true, true, true, true, true, true, true, true, true, true, true, true, true, true, true, true, true, true, true, true, true, false, true, true, true, false, false, false, false, false, false, false, false, false, false, false]) (by rw [hO]; rfl) rfl hns (by rw [hO]; kernel_rfl) (by rw [hO]; kernel_rfl) (by kernel_rfl) hQ ⟨121, by rw [hO]; rfl, q121_59⟩ s13 (fun w _ => rn_move q6_59 rfl w) ?_
  intro b60 e60
  have q3_60 := q3_59.mv e60 rfl
  have q6_60 := q6_59.mv e60 rfl
  have q121_60 := q121_59.mv e60 rfl
  have q122_60 := q122_59.mv e60 rfl
  have q127_60 := q127_59.mv e60 rfl
  have q132_60 := q132_59.mv e60 rfl
  have q134_60 := q134_59.mv e60 rfl
  have q135_60 := q135_59.mv e60 rfl
  have z60 : b60.tmps.size = 167 := (e60 ▸ size_put _ _ _).trans z59
  have q136_60 : At b60 136 (.int .i64 k) := e60 ▸ At.eq (by rw [z59]; decide)
  clear q121_59 q122_59 q127_59 q132_59 q134_59 q135_59 q3_59 q6_59
  clear z59
  refine stepV 61 (o := ⟨some 137, Op.indexAddr 22 (Operand.tmp 135) (Operand.tmp 136), 0, "law.go:107", #[⟨59, Ground.data⟩, ⟨60, Ground.data⟩, ⟨45, Ground.guard⟩], some (45, false)⟩) (v := .pointer (some ⟨g, k * 4, none⟩)) (d := 137) (listed' := #[true, true, true, true, true, true, true, true, true, true, true, true, true, true, true, true, true, true, true, true, true, true, true, true, true, true, true, true, true, true, true, true, true, true, true, true, true, true, true, true, true, true, true, true, true, true, true, true, true, true, true, true, true, true, true, true, true, false, true, true, true, true, false, false, false, false, false, false, false, false, false, false]) (by rw [hO]; rfl) rfl hns (by rw [hO]; kernel_rfl) (by rw [hO]; kernel_rfl) (by kernel_rfl) hQ ⟨121, by rw [hO]; rfl, q121_60⟩ s13 (fun w _ => rn_idx q135_60 q136_60 hk w) ?_
  intro b61 e61
  have q3_61 := q3_60.mv e61 rfl
  have q6_61 := q6_60.mv e61 rfl
  have q121_61 := q121_60.mv e61 rfl
  have q122_61 := q122_60.mv e61 rfl
  have q127_61 := q127_60.mv e61 rfl
  have q132_61 := q132_60.mv e61 rfl
  have q134_61 := q134_60.mv e61 rfl
  have z61 : b61.tmps.size = 167 := (e61 ▸ size_put _ _ _).trans z60
  have q137_61 : At b61 137 (.pointer (some ⟨g, k * 4, none⟩)) := e61 ▸ At.eq (by rw [z60]; decide)
  clear q121_60 q122_60 q127_60 q132_60 q134_60 q135_60 q136_60 q3_60 q6_60
  clear z60
  refine stepV 62 (o := ⟨some 138, Op.fieldAddr 31 (Operand.tmp 137) 1, 0, "law.go:107", #[⟨61, Ground.data⟩, ⟨45, Ground.guard⟩], some (45, false)⟩) (v := .pointer (some ⟨g, k * 4 + 1, none⟩)) (d := 138) (listed' := #[true, true, true, true, true, true, true, true, true, true, true, true, true, true, true, true, true, true, true, true, true, true, true, true, true, true, true, true, true, true, true, true, true, true, true, true, true, true, true, true, true, true, true, true, true, true, true, true, true, true, true, true, true, true, true, true, true, false, true, true, true, true, true, false, false, false, false, false, false, false, false, false]) (by rw [hO]; rfl) rfl hns (by rw [hO]; kernel_rfl) (by rw [hO]; kernel_rfl) (by kernel_rfl) hQ ⟨121, by rw [hO]; rfl, q121_61⟩ s13 (fun w _ => rn_fld 1 (by decide) q137_61 w) ?_
  intro b62 e62
  have q3_62 := q3_61.mv e62 rfl
  have q6_62 := q6_61.mv e62 rfl
  have q121_62 := q121_61.mv e62 rfl
  have q122_62 := q122_61.mv e62 rfl
  have q127_62 := q127_61.mv e62 rfl
  have q132_62 := q132_61.mv e62 rfl
  have q134_62 := q134_61.mv e62 rfl
  have z62 : b62.tmps.size = 167 := (e62 ▸ size_put _ _ _).trans z61
  have q138_62 : At b62 138 (.pointer (some ⟨g, k * 4 + 1, none⟩)) := e62 ▸ At.eq (by rw [z61]; decide)
  clear q121_61 q122_61 q127_61 q132_61 q134_61 q137_61 q3_61 q6_61
  clear z61
  refine stepV 63 (o := ⟨some 139, Op.load 9 (Operand.tmp 138), 9, "law.go:107", #[⟨62, Ground.data⟩, ⟨45, Ground.guard⟩], some (45, false)⟩) (v := .string oF) (d := 139) (listed' := #[true, true, true, true, true, true, true, true, true, true, true, true, true, true, true, true, true, true, true, true, true, true, true, true, true, true, true, true, true, true, true, true, true, true, true, true, true, true, true, true, true, true, true, true, true, true, true, true, true, true, true, true, true, true, true, true, true, false, true, true, true, true, true, true, false, false, false, false, false, false, false, false]) (by rw [hO]; rfl) rfl hns (by rw [hO]; kernel_rfl) (by rw [hO]; kernel_rfl) (by kernel_rfl) hQ ⟨121, by rw [hO]; rfl, q121_62⟩ s13 (fun w hs => rn_lds q138_62 w hs.1) ?_
  intro b63 e63
  have q3_63 := q3_62.mv e63 rfl
  have q6_63 := q6_62.mv e63 rfl
  have q121_63 := q121_62.mv e63 rfl
  have q122_63 := q122_62.mv e63 rfl
  have q127_63 := q127_62.mv e63 rfl
  have q132_63 := q132_62.mv e63 rfl
  have q134_63 := q134_62.mv e63 rfl
  have z63 : b63.tmps.size = 167 := (e63 ▸ size_put _ _ _).trans z62
  have q139_63 : At b63 139 (.string oF) := e63 ▸ At.eq (by rw [z62]; decide)
  clear q121_62 q122_62 q127_62 q132_62 q134_62 q138_62 q3_62 q6_62
  clear z62
  refine stepV 64 (o := ⟨some 140, Op.move (Operand.tmp 3), 22, "law.go:107", #[⟨45, Ground.guard⟩], some (45, false)⟩) (v := .slice (some ⟨g, 0, none⟩) len c1) (d := 140) (listed' := #[true, true, true, true, true, true, true, true, true, true, true, true, true, true, true, true, true, true, true, true, true, true, true, true, true, true, true, true, true, true, true, true, true, true, true, true, true, true, true, true, true, true, true, true, true, true, true, true, true, true, true, true, true, true, true, true, true, false, true, true, true, true, true, true, true, false, false, false, false, false, false, false]) (by rw [hO]; rfl) rfl hns (by rw [hO]; kernel_rfl) (by rw [hO]; kernel_rfl) (by kernel_rfl) hQ ⟨121, by rw [hO]; rfl, q121_63⟩ s13 (fun w _ => rn_move q3_63 rfl w) ?_
  intro b64 e64
  have q6_64 := q6_63.mv e64 rfl
  have q121_64 := q121_63.mv e64 rfl
  have q122_64 := q122_63.mv e64 rfl
  have q127_64 := q127_63.mv e64 rfl
  have q132_64 := q132_63.mv e64 rfl
  have q134_64 := q134_63.mv e64 rfl
  have q139_64 := q139_63.mv e64 rfl
  have z64 : b64.tmps.size = 167 := (e64 ▸ size_put _ _ _).trans z63
  have q140_64 : At b64 140 (.slice (some ⟨g, 0, none⟩) len c1) := e64 ▸ At.eq (by rw [z63]; decide)
  clear q121_63 q122_63 q127_63 q132_63 q134_63 q139_63 q3_63 q6_63
  clear z63
  refine stepV 65 (o := ⟨some 141, Op.move (Operand.tmp 6), 3, "law.go:107", #[⟨45, Ground.guard⟩], some (45, false)⟩) (v := .int .i64 k) (d := 141) (listed' := #[true, true, true, true, true, true, true, true, true, true, true, true, true, true, true, true, true, true, true, true, true, true, true, true, true, true, true, true, true, true, true, true, true, true, true, true, true, true, true, true, true, true, true, true, true, true, true, true, true, true, true, true, true, true, true, true, true, false, true, true, true, true, true, true, true, true, false, false, false, false, false, false]) (by rw [hO]; rfl) rfl hns (by rw [hO]; kernel_rfl) (by rw [hO]; kernel_rfl) (by kernel_rfl) hQ ⟨121, by rw [hO]; rfl, q121_64⟩ s13 (fun w _ => rn_move q6_64 rfl w) ?_
  intro b65 e65
  have q121_65 := q121_64.mv e65 rfl
  have q122_65 := q122_64.mv e65 rfl
  have q127_65 := q127_64.mv e65 rfl
  have q132_65 := q132_64.mv e65 rfl
  have q134_65 := q134_64.mv e65 rfl
  have q139_65 := q139_64.mv e65 rfl
  have q140_65 := q140_64.mv e65 rfl
  have z65 : b65.tmps.size = 167 := (e65 ▸ size_put _ _ _).trans z64
  have q141_65 : At b65 141 (.int .i64 k) := e65 ▸ At.eq (by rw [z64]; decide)
  clear q121_64 q122_64 q127_64 q132_64 q134_64 q139_64 q140_64 q6_64
  clear z64
  refine stepV 66 (o := ⟨some 142, Op.indexAddr 22 (Operand.tmp 140) (Operand.tmp 141), 0, "law.go:107", #[⟨64, Ground.data⟩, ⟨65, Ground.data⟩, ⟨45, Ground.guard⟩], some (45, false)⟩) (v := .pointer (some ⟨g, k * 4, none⟩)) (d := 142) (listed' := #[true, true, true, true, true, true, true, true, true, true, true, true, true, true, true, true, true, true, true, true, true, true, true, true, true, true, true, true, true, true, true, true, true, true, true, true, true, true, true, true, true, true, true, true, true, true, true, true, true, true, true, true, true, true, true, true, true, false, true, true, true, true, true, true, true, true, true, false, false, false, false, false]) (by rw [hO]; rfl) rfl hns (by rw [hO]; kernel_rfl) (by rw [hO]; kernel_rfl) (by kernel_rfl) hQ ⟨121, by rw [hO]; rfl, q121_65⟩ s13 (fun w _ => rn_idx q140_65 q141_65 hk w) ?_
  intro b66 e66
  have q121_66 := q121_65.mv e66 rfl
  have q122_66 := q122_65.mv e66 rfl
  have q127_66 := q127_65.mv e66 rfl
  have q132_66 := q132_65.mv e66 rfl
  have q134_66 := q134_65.mv e66 rfl
  have q139_66 := q139_65.mv e66 rfl
  have z66 : b66.tmps.size = 167 := (e66 ▸ size_put _ _ _).trans z65
  have q142_66 : At b66 142 (.pointer (some ⟨g, k * 4, none⟩)) := e66 ▸ At.eq (by rw [z65]; decide)
  clear q121_65 q122_65 q127_65 q132_65 q134_65 q139_65 q140_65 q141_65
  clear z65
  refine stepV 67 (o := ⟨some 143, Op.fieldAddr 31 (Operand.tmp 142) 2, 0, "law.go:107", #[⟨66, Ground.data⟩, ⟨45, Ground.guard⟩], some (45, false)⟩) (v := .pointer (some ⟨g, k * 4 + 2, none⟩)) (d := 143) (listed' := #[true, true, true, true, true, true, true, true, true, true, true, true, true, true, true, true, true, true, true, true, true, true, true, true, true, true, true, true, true, true, true, true, true, true, true, true, true, true, true, true, true, true, true, true, true, true, true, true, true, true, true, true, true, true, true, true, true, false, true, true, true, true, true, true, true, true, true, true, false, false, false, false]) (by rw [hO]; rfl) rfl hns (by rw [hO]; kernel_rfl) (by rw [hO]; kernel_rfl) (by kernel_rfl) hQ ⟨121, by rw [hO]; rfl, q121_66⟩ s13 (fun w _ => rn_fld 2 (by decide) q142_66 w) ?_
  intro b67 e67
  have q121_67 := q121_66.mv e67 rfl
  have q122_67 := q122_66.mv e67 rfl
  have q127_67 := q127_66.mv e67 rfl
  have q132_67 := q132_66.mv e67 rfl
  have q134_67 := q134_66.mv e67 rfl
  have q139_67 := q139_66.mv e67 rfl
  have z67 : b67.tmps.size = 167 := (e67 ▸ size_put _ _ _).trans z66
  have q143_67 : At b67 143 (.pointer (some ⟨g, k * 4 + 2, none⟩)) := e67 ▸ At.eq (by rw [z66]; decide)
  clear q121_66 q122_66 q127_66 q132_66 q134_66 q139_66 q142_66
  clear z66
  refine stepV 68 (o := ⟨some 144, Op.load 3 (Operand.tmp 143), 3, "law.go:107", #[⟨67, Ground.data⟩, ⟨45, Ground.guard⟩], some (45, false)⟩) (v := .int .i64 oI) (d := 144) (listed' := #[true, true, true, true, true, true, true, true, true, true, true, true, true, true, true, true, true, true, true, true, true, true, true, true, true, true, true, true, true, true, true, true, true, true, true, true, true, true, true, true, true, true, true, true, true, true, true, true, true, true, true, true, true, true, true, true, true, false, true, true, true, true, true, true, true, true, true, true, true, false, false, false]) (by rw [hO]; rfl) rfl hns (by rw [hO]; kernel_rfl) (by rw [hO]; kernel_rfl) (by kernel_rfl) hQ ⟨121, by rw [hO]; rfl, q121_67⟩ s13 (fun w hs => rn_ldi q143_67 w hs.2.1) ?_
  intro b68 e68
  have q121_68 := q121_67.mv e68 rfl
  have q122_68 := q122_67.mv e68 rfl
  have q127_68 := q127_67.mv e68 rfl
  have q132_68 := q132_67.mv e68 rfl
  have q134_68 := q134_67.mv e68 rfl
  have q139_68 := q139_67.mv e68 rfl
  have z68 : b68.tmps.size = 167 := (e68 ▸ size_put _ _ _).trans z67
  have q144_68 : At b68 144 (.int .i64 oI) := e68 ▸ At.eq (by rw [z67]; decide)
  clear q121_67 q122_67 q127_67 q132_67 q134_67 q139_67 q143_67
  clear z67
  refine stepC 57 (o := ⟨some 133, Op.call { callee := Callee.value (Operand.func 19), args := #[Operand.tmp 122, Operand.tmp 127, Operand.tmp 132], argTypes := #[24, 9, 3] }, 3, "law.go:107", #[⟨46, Ground.data⟩, ⟨51, Ground.data⟩, ⟨56, Ground.data⟩, ⟨45, Ground.chain⟩, ⟨45, Ground.guard⟩], some (45, false)⟩) (d := 133) (listed' := #[true, true, true, true, true, true, true, true, true, true, true, true, true, true, true, true, true, true, true, true, true, true, true, true, true, true, true, true, true, true, true, true, true, true, true, true, true, true, true, true, true, true, true, true, true, true, true, true, true, true, true, true, true, true, true, true, true, true, true, true, true, true, true, true, true, true, true, true, true, false, false, false]) (by rw [hO]; rfl) rfl (by rw [hO]; kernel_rfl) (by kernel_rfl) ⟨121, by rw [hO]; rfl, q121_68⟩ (rn_c19 q122_68 q127_68 q132_68 _) ?_
  refine C.mono ?_
  clear C
  rintro e w14 ⟨rfl, s14, C⟩
  refine ⟨_, rfl, s14, ?_⟩
  intro b69 e69
  have q121_69 := q121_68.mv e69 rfl
  have q134_69 := q134_68.mv e69 rfl
  have q139_69 := q139_68.mv e69 rfl
  have q144_69 := q144_68.mv e69 rfl
  have z69 : b69.tmps.size = 167 := (e69 ▸ size_put _ _ _).trans z68
  have q133_69 : At b69 133 (.int .i64 cn) := e69 ▸ At.eq (by rw [z68]; decide)
  clear q121_68 q122_68 q127_68 q132_68 q134_68 q139_68 q144_68
  clear z68
  refine stepC 69 (o := ⟨some 145, Op.call { callee := Callee.value (Operand.func 20), args := #[Operand.tmp 134, Operand.tmp 139, Operand.tmp 144], argTypes := #[26, 9, 3] }, 3, "law.go:107", #[⟨58, Ground.data⟩, ⟨63, Ground.data⟩, ⟨68, Ground.data⟩, ⟨57, Ground.chain⟩, ⟨45, Ground.guard⟩], some (45, false)⟩) (d := 145) (listed' := #[true, true, true, true, true, true, true, true, true, true, true, true, true, true, true, true, true, true, true, true, true, true, true, true, true, true, true, true, true, true, true, true, true, true, true, true, true, true, true, true, true, true, true, true, true, true, true, true, true, true, true, true, true, true, true, true, true, true, true, true, true, true, true, true, true, true, true, true, true, true, false, false]) (by rw [hO]; rfl) rfl (by rw [hO]; kernel_rfl) (by kernel_rfl) ⟨121, by rw [hO]; rfl, q121_69⟩ (rn_c20 q134_69 q139_69 q144_69 _) ?_
  refine C.mono ?_
  clear C
  rintro e w15 ⟨rfl, s15, C⟩
  refine ⟨_, rfl, s15, ?_⟩
  intro b70 e70
  have q121_70 := q121_69.mv e70 rfl
  have q133_70 := q133_69.mv e70 rfl
  have z70 : b70.tmps.size = 167 := (e70 ▸ size_put _ _ _).trans z69
  have q145_70 : At b70 145 (.int .i64 cn) := e70 ▸ At.eq (by rw [z69]; decide)
  clear q121_69 q133_69 q134_69 q139_69 q144_69
  clear z69
  refine stepV 70 (o := ⟨some 146, Op.binOp BinOp.neq 3 (Operand.tmp 133) (Operand.tmp 145) 3, 4, "law.go:107", #[⟨57, Ground.data⟩, ⟨69, Ground.data⟩, ⟨45, Ground.guard⟩], some (45, false)⟩) (v := .bool false) (d := 146) (listed' := #[true, true, true, true, true, true, true, true, true, true, true, true, true, true, true, true, true, true, true, true, true, true, true, true, true, true, true, true, true, true, true, true, true, true, true, true, true, true, true, true, true, true, true, true, true, true, true, true, true, true, true, true, true, true, true, true, true, true, true, true, true, true, true, true, true, true, true, true, true, true, true, false]) (by rw [hO]; rfl) rfl hns (by rw [hO]; kernel_rfl) (by rw [hO]; kernel_rfl) (by kernel_rfl) hQ ⟨121, by rw [hO]; rfl, q121_70⟩ s15 (fun w _ => rn_neq3 q133_70 q145_70 w) ?_
  intro b71 e71
  have q121_71 := q121_70.mv e71 rfl
  have z71 : b71.tmps.size = 167 := (e71 ▸ size_put _ _ _).trans z70
  have q146_71 : At b71 146 (.bool false) := e71 ▸ At.eq (by rw [z70]; decide)
  clear q121_70 q133_70 q145_70
  clear z70
  refine stepV 71 (o := ⟨some 147, Op.pick (Operand.tmp 121) (Operand.const (Value.bool true)) (Operand.tmp 146), 4, "law.go:107", #[⟨45, Ground.data⟩, ⟨70, Ground.data⟩], none⟩) (v := .bool false) (d := 147) (listed' := #[true, true, true, true, true, true, true, true, true, true, true, true, true, true, true, true, true, true, true, true, true, true, true, true, true, true, true, true, true, true, true, true, true, true, true, true, true, true, true, true, true, true, true, true, true, true, true, true, true, true, true, true, true, true, true, true, true, true, true, true, true, true, true, true, true, true, true, true, true, true, true, true]) (by rw [hO]; rfl) rfl hns (by rw [hO]; kernel_rfl) (by rw [hO]; kernel_rfl) (by kernel_rfl) hQ (trivial) s15 (fun w _ => rn_pick q121_71 q146_71 w) ?_
  intro b72 e72
  have z72 : b72.tmps.size = 167 := (e72 ▸ size_put _ _ _).trans z71
  clear q121_71 q146_71
  clear z71
  refine wpAnyH_done (by rw [hO]; kernel_rfl) (C _ ?_) _
  rw [e72, e71, e70, e69, e68, e67, e66, e65, e64, e63, e62, e61, e60, e59, e58, e57, e56, e55, e54, e53, e52, e51, e50, e49, e48, e47, e46, e45, e44, e43, e42, e41, e40, e39, e38, e37, e36, e35, e34, e33, e32, e31, e30, e29, e28, e27, e26, e25, e24, e23, e22, e21, e20, e19, e18, e17, e16, e15, e14, e13, e12, e11, e10, e9, e8, e7, e6, e5, e4, e3, e2, e1]
  rfl
end Go.Proofs.YtalebnhkidhglaaGreat
