/-
  The walks of Same and Age.
-/
import Derived.Test.YtlfmpoinjbmjoaaGreatDoorEgetw
import Derived.Test.YtlfmpoinjbmjoaaGreatDoorRquiet
namespace Go.Proofs.YtlfmpoinjbmjoaaGreatDoor
open Go.ChangeShapes Go.WideShapes Go.ChangeAt Go.RowKit

theorem str_ne {a b : ByteArray} (h : a ≠ b) : (a.toList == b.toList) = false := by
  rw [beq_eq_false_iff_ne]
  intro e
  apply h
  apply ByteArray.ext
  apply Array.toList_inj.1
  rw [← toList_eq, ← toList_eq, e]

theorem set_same {w : World} {g i : Nat} {v : Value} (h : w.cell? ⟨g, i, none⟩ = some v) : w.setCell ⟨g, i, none⟩ v = w := by
  unfold World.setCell
  have e : w.heap.modify g (fun
      | .cells c elem frozen => .cells (if (none : Option Nat).isSome then c else c.setIfInBounds i v) elem frozen
      | o => o) = w.heap := by
    apply Array.ext
    · simp
    · intro k h1 h2
      rw [Array.getElem_modify]
      by_cases hk : g = k
      · subst hk
        rw [if_pos rfl]
        unfold World.cell? at h
        rw [Array.getElem?_eq_getElem h2] at h
        cases ho : w.heap[g] with
        | cells c el fr =>
          rw [ho] at h
          simp only [Option.isSome_none, Bool.false_eq_true, if_false] at h ⊢
          congr 1
          apply Array.ext_getElem?
          intro j
          rw [Array.getElem?_setIfInBounds]
          by_cases hj : i = j
          · subst hj
            have := (Array.getElem?_eq_some_iff.1 h).1
            rw [if_pos rfl, if_pos this, h]
          · rw [if_neg hj]
        | _ => rfl
      · rw [if_neg hk]
  exact congrArg (fun x => { w with heap := x }) e
end Go.Proofs.YtlfmpoinjbmjoaaGreatDoor
