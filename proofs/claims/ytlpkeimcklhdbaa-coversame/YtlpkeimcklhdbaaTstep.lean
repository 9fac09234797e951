/-
  Two levels at the same place: the walks of coversLevel and meetLevel; what a loop over pairs comes to.
-/
import Derived.Test.YtlpkeimcklhdbaaTpairs
import Derived.Test.YtlpkeimcklhdbaaTfilter
namespace Go.Proofs.Ytlpkeimcklhdbaa
open Go.ChangeShapes Go.WideShapes Go.ChangeAt Go.RowKit Go.Shelf

namespace Tp
abbrev Q := L × L × Bool × Bool
/-- a loop over pairs that may return -/
def run (step : Q → Option Bool) (dflt : Bool) : List Q → Bool
  | [] => dflt
  | x :: r => match step x with | some b => b | none => run step dflt r
theorem run_none {step : Q → Option Bool} {dflt : Bool} : ∀ (pre r : List Q), (∀ y ∈ pre, step y = none) → run step dflt (pre ++ r) = run step dflt r
  | [], _, _ => rfl
  | x :: pre, r, h => by
    rw [List.cons_append, run, h x (by simp)]
    exact run_none pre r fun y hy => h y (by simp [hy])
theorem run_end {step : Q → Option Bool} {dflt : Bool} (xs : List Q) (h : ∀ y ∈ xs, step y = none) : run step dflt xs = dflt := by
  have := run_none (dflt := dflt) xs [] h
  rw [List.append_nil] at this
  exact this
/-- the loop has returned v -/
def Stopped (step : Q → Option Bool) (pre : List Q) (v : Bool) : Prop := ∃ init last, pre = init ++ [last] ∧ (∀ y ∈ init, step y = none) ∧ step last = some v
theorem run_stop {step : Q → Option Bool} {dflt v : Bool} {pre xs : List Q} (hp : pre <+: xs) (h : Stopped step pre v) : run step dflt xs = v := by
  obtain ⟨t, rfl⟩ := hp
  obtain ⟨init, last, rfl, hi, hl⟩ := h
  rw [List.append_assoc, run_none _ _ hi, List.singleton_append, run, hl]
theorem none_snoc {step : Q → Option Bool} {pre : List Q} {x : Q} (h : ∀ y ∈ pre, step y = none) (hx : step x = none) : ∀ y ∈ pre ++ [x], step y = none := by
  intro y hy
  rcases List.mem_append.1 hy with hy | hy
  · exact h y hy
  · simp at hy; subst hy; exact hx

def covlev (x : Q) : Bool := x.2.2.1 && x.2.2.2 && (x.2.1 != hash) && (x.1 == plus || x.1 == x.2.1)
def meelev (x : Q) : Bool := x.2.2.1 && x.2.2.2 && (x.1 == plus || x.2.1 == plus || x.1 == x.2.1)
def covstep (x : Q) : Option Bool := if x.1 = hash then some true else if covlev x then none else some false
def meestep (x : Q) : Option Bool := if x.1 = hash ∨ x.2.1 = hash then some true else if meelev x then none else some false
def lesstep (x : Q) : Option Bool := if x.2.2.1 = false ∨ x.2.2.2 = false then some x.2.2.2 else if x.1 ≠ x.2.1 then some (Op.bytesLess x.1 x.2.1) else none

theorem cov_prs : ∀ a b : List L, run covstep true (prs a b) = cov a b
  | [], [] => by simp [prs, run, cov]
  | x :: a, [] => by
    rw [prs, run, cov]
    by_cases h : x = hash
    · simp [covstep, h]
    · simp [covstep, covlev, h]
  | [], y :: b => by
    rw [prs, run, cov]
    simp [covstep, covlev]
  | x :: a, y :: b => by
    rw [prs, run, cov, ← cov_prs a b]
    by_cases h : x = hash
    · simp [covstep, h]
    · by_cases h2 : y = hash
      · simp [covstep, covlev, h, h2]
      · rw [if_neg h, if_neg h2]
        by_cases h3 : (x == plus || x == y) = true
        · simp only [covstep, covlev, if_neg h, h3]; simp [h2]
        · rw [Bool.not_eq_true] at h3
          simp only [covstep, covlev, if_neg h, h3]; simp
theorem mee_prs : ∀ a b : List L, run meestep true (prs a b) = mee a b
  | [], [] => by simp [prs, run, mee]
  | x :: a, [] => by
    rw [prs, run, mee]
    by_cases h : x = hash
    · simp [meestep, h]
    · simp [meestep, meelev, h]
  | [], y :: b => by
    rw [prs, run, mee]
    by_cases h : y = hash
    · simp [meestep, h]
    · simp [meestep, meelev, h]
  | x :: a, y :: b => by
    rw [prs, run, mee, ← mee_prs a b]
    by_cases h : x = hash ∨ y = hash
    · simp only [meestep, if_pos h]
    · simp only [meestep, if_neg h]
      by_cases h3 : (x == plus || y == plus || x == y) = true
      · simp only [meelev, h3]; simp
      · rw [Bool.not_eq_true] at h3
        simp only [meelev, h3]; simp
theorem les_prs : ∀ a b : List L, run lesstep false (prs a b) = les a b
  | [], [] => by simp [prs, run, les]
  | x :: a, [] => by rw [prs, run, les]; simp [lesstep]
  | [], y :: b => by rw [prs, run, les]; simp [lesstep]
  | x :: a, y :: b => by
    rw [prs, run, les, ← les_prs a b]
    by_cases h : x = y
    · simp [lesstep, h]
    · simp [lesstep, h]
end Tp

theorem beq_list (a : ByteArray) (l : List UInt8) : (a.toList == l) = (a.data.toList == l) := by rw [toList_eq]
theorem bne_list (a : ByteArray) (l : List UInt8) : (a.toList != l) = (a.data.toList != l) := by rw [toList_eq]

set_option maxHeartbeats 1000000 in
theorem coversLevel_any (p : PV) (w : World) :
    Calls Try.prog 48 #[.agg #[.string p.a, .string p.b, .bool p.ha, .bool p.hb]] w fun e w' => e = .returned (.bool (Tp.covlev p.dat)) ∧ Kept w w' := by
  obtain ⟨a, b, ha, hb⟩ := p
  have Hk : Hid (Tp.covlev (PV.dat ⟨a, b, ha, hb⟩) = (ha && hb && (b.toList != [35]) && ((a.toList == [43]) || (a.toList == b.toList)))) := by
    show _ = _
    simp only [Tp.covlev, PV.dat, toList_eq]
  have hf : ∀ x : Bool, x = true ∨ x = false := by intro x; cases x <;> simp
  simp only
  rcases hf ha with e1 | e1 <;> rcases hf hb with e2 | e2 <;> rcases hf (b.toList == [35]) with e3 | e3 <;> rcases hf (a.toList == [43]) with e4 | e4 <;> rcases hf (a.toList == b.toList) with e5 | e5 <;>
    (go_enter Try.func48, Try.ntmps48
     go_wp2
     go_ret
     refine ⟨?_, Kept.alloc (Kept.refl w) _⟩
     rw [Hk.out]
     simp [e1, e2, e3, e4, e5, bne])

end Go.Proofs.Ytlpkeimcklhdbaa
