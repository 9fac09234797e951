import Derived.Test.YtalebnhkidhglaaGreatVbase
import Derived.Deep.RegionHeld3
import Derived.BigRegion
import Derived.Test.YtalebnhkidhglaaGreatRlaw2
import Derived.BigCall
namespace Go.Proofs.YtalebnhkidhglaaGreat
open Go.ChangeShapes Go.WideShapes Go.ChangeAt Go.RowKit

/-- slot n of the frame holds v -/
def At (a : Act) (n : Nat) (v : Value) : Prop := a.tmps[n]? = some v
theorem At.eval {a : Act} {n : Nat} {v : Value} (h : At a n v) : a.eval (.tmp n) = v := by
  unfold At at h
  simp [Act.eval, Array.getD_eq_getD_getElem?, h]
theorem At.ne {a : Act} {n d : Nat} {v u : Value} (h : At a n v) (hd : d ≠ n) : At (a.put (some d) u) n v := by
  unfold At at *
  simp only [Act.put]
  rw [Array.getElem?_setIfInBounds_ne hd]
  exact h
theorem At.eq {a : Act} {d : Nat} {u : Value} (h : d < a.tmps.size) : At (a.put (some d) u) d u := by
  unfold At
  simp only [Act.put]
  rw [Array.getElem?_setIfInBounds_self_of_lt h]
theorem size_put (a : Act) (d : Nat) (u : Value) : (a.put (some d) u).tmps.size = a.tmps.size := by simp [Act.put]

/-- what an operation's guard asks for -/
def Wants (ops : Array Oper) (a : Act) : Option (Nat × Bool) → Prop
  | none => True
  | some (j, b) => ∃ d, (ops[j]?).bind (·.dst) = some d ∧ At a d (.bool b)
theorem Wants.wanted {ops : Array Oper} {a : Act} {o : Oper} (h : Wants ops a o.guard) : Region.wanted o (yielded ops a.tmps) = true := by
  unfold Region.wanted
  generalize o.guard = g at h
  match g, h with
  | none, _ => rfl
  | some (j, b), ⟨d, h1, h2⟩ =>
    unfold At at h2
    simp [yielded, h1, h2]

section
variable {P : Program} {ops : Array Oper} {Q : Exit → Act → World → Prop} {S : World → Prop} {fuel : Nat} {listed listed' : Array Bool} {a : Act} {w : World}

theorem stepV (i : Nat) {o : Oper} {v : Value} {d : Nat} (ho : ops[i]? = some o) (hd : o.dst = some d) (hns : Region.noSelect ops = true)
    (hf : Region.free .any ops listed i = true) (hr : (Region.ready .any ops listed).contains i = true) (hl : listed.setIfInBounds i true = listed')
    (hQ : ∀ c a w (d : Nat) v, Q (.panic c) (a.put (some d) v) w → Q (.panic c) a w) (hg : Wants ops a o.guard) (hS : S w)
    (hv : ∀ w, S w → (execOp a.eval o).run P w = .ok (.value v) w)
    (h : ∀ a', a' = a.put (some d) v → wpAnyH P .any ops Q S fuel listed' a' w) : wpAnyH P .any ops Q S (fuel + 1) listed a w := by
  refine wpAnyH_take ho hns hf hr (fun c a w h => hQ c a w d v (hd ▸ h)) (.inl ⟨hg.wanted, hv⟩) hS ?_
  rw [hl, hd]
  exact h _ rfl

theorem stepC (i : Nat) {o : Oper} {d : Nat} {f : FuncId} {args : Array Value} (ho : ops[i]? = some o) (hd : o.dst = some d)
    (hr : Region.ready .any ops listed = [i]) (hl : listed.setIfInBounds i true = listed')
    (hg : Wants ops a o.guard)
    (he : (execOp a.eval o).run P w = .ok (.enter f args) w)
    (h : Calls P f args w fun e w' => ∃ v, e = .returned v ∧ S w' ∧ ∀ a', a' = a.put (some d) v → wpAnyH P .any ops Q S fuel listed' a' w') : wpAnyH P .any ops Q S (fuel + 1) listed a w := by
  refine wpAnyH_all hr (by simp) ?_
  intro i' hi'
  rw [List.mem_singleton] at hi'
  subst hi'
  refine wpOp_step ho ?_
  intro K hK
  rw [if_pos hg.wanted]
  unfold Oper.wp
  rw [he, Oper.upon_enter]
  refine h.mono ?_
  rintro e w' ⟨v, rfl, hs, hh⟩
  refine hK _ _ ⟨hs, ?_⟩
  rw [hl, hd]
  exact hh _ rfl
end
end Go.Proofs.YtalebnhkidhglaaGreat

namespace Go.Proofs.YtalebnhkidhglaaGreat
open Go.ChangeShapes Go.WideShapes Go.ChangeAt Go.RowKit
variable {a : Act} {dst : Option Tmp} {ty : TypeId} {pos : String} {after : Array Edge} {guard : Option (Nat × Bool)}

theorem rn_move {o : Oper} {n : Nat} {v : Value} (h : At a n v) (ho : o.op = .move (.tmp n)) (w : World) : (execOp a.eval o).run Tryz.prog w = .ok (.value v) w := by
  rw [BigFrame.run_move _ ho, h.eval]
theorem rn_neq3 {n m : Nat} {x : Int} (h : At a n (.int .i64 x)) (h' : At a m (.int .i64 x)) (w : World) : (execOp a.eval ⟨dst, .binOp .neq 3 (.tmp n) (.tmp m) 3, ty, pos, after, guard⟩).run Tryz.prog w = .ok (.value (.bool false)) w := by
  have e1 := h.eval
  have e2 := h'.eval
  generalize a.eval = ρ at *
  simp [go_sem, e1, e2]
theorem rn_neq32 {n m : Nat} {x : Int} (h : At a n (.int .i64 x)) (h' : At a m (.int .i64 x)) (w : World) : (execOp a.eval ⟨dst, .binOp .neq 32 (.tmp n) (.tmp m) 32, ty, pos, after, guard⟩).run Tryz.prog w = .ok (.value (.bool false)) w := by
  have e1 := h.eval
  have e2 := h'.eval
  generalize a.eval = ρ at *
  simp [go_sem, e1, e2]
theorem rn_pick {n m : Nat} {v : Value} {u : Value} (h : At a n (.bool false)) (h' : At a m v) (w : World) : (execOp a.eval ⟨dst, .pick (.tmp n) (.const u) (.tmp m), ty, pos, after, guard⟩).run Tryz.prog w = .ok (.value v) w := by
  have e1 := h.eval
  have e2 := h'.eval
  generalize a.eval = ρ at *
  simp [go_sem, e1, e2]
theorem rn_not {n : Nat} (h : At a n (.bool true)) (w : World) : (execOp a.eval ⟨dst, .unOp .not 4 (.tmp n), ty, pos, after, guard⟩).run Tryz.prog w = .ok (.value (.bool false)) w := by
  have e1 := h.eval
  generalize a.eval = ρ at *
  simp [go_sem, e1]
theorem rn_idx {n m g len c k : Nat} (h : At a n (.slice (some ⟨g, 0, none⟩) len c)) (h' : At a m (.int .i64 k)) (hk : k < len) (w : World) : (execOp a.eval ⟨dst, .indexAddr 22 (.tmp n) (.tmp m), ty, pos, after, guard⟩).run Tryz.prog w = .ok (.value (.pointer (some ⟨g, k * 4, none⟩))) w := by
  have e1 := h.eval
  have e2 := h'.eval
  generalize a.eval = ρ at *
  simp [go_sem, e1, e2, hk]
theorem rn_fld {n g m : Nat} (j : Nat) (hj : j = 1 ∨ j = 2 ∨ j = 3) (h : At a n (.pointer (some ⟨g, m, none⟩))) (w : World) : (execOp a.eval ⟨dst, .fieldAddr 31 (.tmp n) j, ty, pos, after, guard⟩).run Tryz.prog w = .ok (.value (.pointer (some ⟨g, m + j, none⟩))) w := by
  have e1 := h.eval
  generalize a.eval = ρ at *
  rcases hj with rfl | rfl | rfl <;> simp [go_sem, e1]
theorem rn_lds {n g m : Nat} {s : ByteArray} (h : At a n (.pointer (some ⟨g, m, none⟩))) (w : World) (hc : w.cell? ⟨g, m, none⟩ = some (.string s)) : (execOp a.eval ⟨dst, .load 9 (.tmp n), ty, pos, after, guard⟩).run Tryz.prog w = .ok (.value (.string s)) w := by
  have e1 := h.eval
  generalize a.eval = ρ at *
  simp [go_sem, e1, hc]
theorem rn_ldi {n g m : Nat} {x : Int} (h : At a n (.pointer (some ⟨g, m, none⟩))) (w : World) (hc : w.cell? ⟨g, m, none⟩ = some (.int .i64 x)) : (execOp a.eval ⟨dst, .load 3 (.tmp n), ty, pos, after, guard⟩).run Tryz.prog w = .ok (.value (.int .i64 x)) w := by
  have e1 := h.eval
  generalize a.eval = ρ at *
  simp [go_sem, e1, hc]
theorem rn_c14 {n0 n1 : Nat} {v0 v1 : Value} (h0 : At a n0 v0) (h1 : At a n1 v1) (w : World) {ats : Array TypeId} : (execOp a.eval ⟨dst, .call { callee := .value (.func 14), args := #[.tmp n0, .tmp n1], argTypes := ats }, ty, pos, after, guard⟩).run Tryz.prog w = .ok (.enter 14 #[v0, v1]) w := by
  rw [execOp_call_go]
  have hx : #[] ++ (#[.tmp n0, .tmp n1] : Array Operand).map a.eval ++ #[] = #[v0, v1] := by simp [h0.eval, h1.eval]
  rw [hx]
  simp [go_sem]
theorem rn_c13 {n0 n1 : Nat} {v0 v1 : Value} (h0 : At a n0 v0) (h1 : At a n1 v1) (w : World) {ats : Array TypeId} : (execOp a.eval ⟨dst, .call { callee := .value (.func 13), args := #[.tmp n0, .tmp n1], argTypes := ats }, ty, pos, after, guard⟩).run Tryz.prog w = .ok (.enter 13 #[v0, v1]) w := by
  rw [execOp_call_go]
  have hx : #[] ++ (#[.tmp n0, .tmp n1] : Array Operand).map a.eval ++ #[] = #[v0, v1] := by simp [h0.eval, h1.eval]
  rw [hx]
  simp [go_sem]
theorem rn_c16 {n0 : Nat} {v0 : Value} (h0 : At a n0 v0) (w : World) {ats : Array TypeId} : (execOp a.eval ⟨dst, .call { callee := .value (.func 16), args := #[.tmp n0], argTypes := ats }, ty, pos, after, guard⟩).run Tryz.prog w = .ok (.enter 16 #[v0]) w := by
  rw [execOp_call_go]
  have hx : #[] ++ (#[.tmp n0] : Array Operand).map a.eval ++ #[] = #[v0] := by simp [h0.eval]
  rw [hx]
  simp [go_sem]
theorem rn_c15 {n0 n1 : Nat} {v0 v1 : Value} (h0 : At a n0 v0) (h1 : At a n1 v1) (w : World) {ats : Array TypeId} : (execOp a.eval ⟨dst, .call { callee := .value (.func 15), args := #[.tmp n0, .tmp n1], argTypes := ats }, ty, pos, after, guard⟩).run Tryz.prog w = .ok (.enter 15 #[v0, v1]) w := by
  rw [execOp_call_go]
  have hx : #[] ++ (#[.tmp n0, .tmp n1] : Array Operand).map a.eval ++ #[] = #[v0, v1] := by simp [h0.eval, h1.eval]
  rw [hx]
  simp [go_sem]
theorem rn_c17 {n0 n1 : Nat} {v0 v1 : Value} (h0 : At a n0 v0) (h1 : At a n1 v1) (w : World) {ats : Array TypeId} : (execOp a.eval ⟨dst, .call { callee := .value (.func 17), args := #[.tmp n0, .tmp n1], argTypes := ats }, ty, pos, after, guard⟩).run Tryz.prog w = .ok (.enter 17 #[v0, v1]) w := by
  rw [execOp_call_go]
  have hx : #[] ++ (#[.tmp n0, .tmp n1] : Array Operand).map a.eval ++ #[] = #[v0, v1] := by simp [h0.eval, h1.eval]
  rw [hx]
  simp [go_sem]
theorem rn_c18 {n0 n1 : Nat} {v0 v1 : Value} (h0 : At a n0 v0) (h1 : At a n1 v1) (w : World) {ats : Array TypeId} : (execOp a.eval ⟨dst, .call { callee := .value (.func 18), args := #[.tmp n0, .tmp n1], argTypes := ats }, ty, pos, after, guard⟩).run Tryz.prog w = .ok (.enter 18 #[v0, v1]) w := by
  rw [execOp_call_go]
  have hx : #[] ++ (#[.tmp n0, .tmp n1] : Array Operand).map a.eval ++ #[] = #[v0, v1] := by simp [h0.eval, h1.eval]
  rw [hx]
  simp [go_sem]
theorem rn_c19 {n0 n1 n2 : Nat} {v0 v1 v2 : Value} (h0 : At a n0 v0) (h1 : At a n1 v1) (h2 : At a n2 v2) (w : World) {ats : Array TypeId} : (execOp a.eval ⟨dst, .call { callee := .value (.func 19), args := #[.tmp n0, .tmp n1, .tmp n2], argTypes := ats }, ty, pos, after, guard⟩).run Tryz.prog w = .ok (.enter 19 #[v0, v1, v2]) w := by
  rw [execOp_call_go]
  have hx : #[] ++ (#[.tmp n0, .tmp n1, .tmp n2] : Array Operand).map a.eval ++ #[] = #[v0, v1, v2] := by simp [h0.eval, h1.eval, h2.eval]
  rw [hx]
  simp [go_sem]
theorem rn_c20 {n0 n1 n2 : Nat} {v0 v1 v2 : Value} (h0 : At a n0 v0) (h1 : At a n1 v1) (h2 : At a n2 v2) (w : World) {ats : Array TypeId} : (execOp a.eval ⟨dst, .call { callee := .value (.func 20), args := #[.tmp n0, .tmp n1, .tmp n2], argTypes := ats }, ty, pos, after, guard⟩).run Tryz.prog w = .ok (.enter 20 #[v0, v1, v2]) w := by
  rw [execOp_call_go]
  have hx : #[] ++ (#[.tmp n0, .tmp n1, .tmp n2] : Array Operand).map a.eval ++ #[] = #[v0, v1, v2] := by simp [h0.eval, h1.eval, h2.eval]
  rw [hx]
  simp [go_sem]
end Go.Proofs.YtalebnhkidhglaaGreat
