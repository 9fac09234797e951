/-
  Rows of marks of a call's own.
-/
import Derived.Test.YtlfmpoinjbmjoaaGreatDoorEcutw
import Derived.Test.YtlfmpoinjbmjoaaGreatDoorTstrs
namespace Go.Proofs.YtlfmpoinjbmjoaaGreatDoor
open Go.ChangeShapes Go.WideShapes Go.ChangeAt Go.RowKit

def mcells (m : Ev.M) : List Value := [.int .i64 m.o, .int .i64 m.s]
/-- rows of marks of the call's own -/
def OwnM (w : World) (base : Nat) (v : Value) (ms : List Ev.M) : Prop := w.ownsRow base 63 2 v ms.length (ms.flatMap mcells)
theorem OwnM.kept {w w' : World} {base : Nat} {v : Value} {ms : List Ev.M} (h : OwnM w base v ms) (k : Kept w w') : OwnM w' base v ms := own_kept h k
theorem own_marks (w : World) : OwnM (w.alloc (.cells #[] 63)) w.heap.size (.slice (some ⟨w.heap.size, 0, none⟩) 0 0) [] :=
  ⟨rfl, .inr ⟨w.heap.size, 0, #[], rfl, Nat.le_refl _, heap_alloc_new w _, Nat.le_refl _, Nat.zero_le _, rfl, rfl⟩⟩
theorem flat2 : ∀ (ms : List Ev.M) (i j : Nat), j < 2 → (ms.flatMap mcells)[i * 2 + j]? = (ms[i]?).bind fun m => (mcells m)[j]?
  | [], i, j, _ => by simp
  | m :: ms, 0, j, hj => by
    rw [List.flatMap_cons, List.getElem?_append_left (by simp [mcells]; omega)]
    simp
  | m :: ms, i + 1, j, hj => by
    rw [List.flatMap_cons, List.getElem?_append_right (by simp [mcells]; omega), show (i + 1) * 2 + j - (mcells m).length = i * 2 + j by simp [mcells]; omega, flat2 ms i j hj, List.getElem?_cons_succ]
theorem OwnM.mks {w : World} {base : Nat} {v : Value} {ms : List Ev.M} (h : OwnM w base v ms) (hf : ∀ m ∈ ms, mfit m) : ∃ av cap, v = .slice av ms.length cap ∧ MkS w av cap ms := by
  have h' := h
  obtain ⟨hl, hr⟩ := h
  rcases hr with ⟨rfl, h0⟩ | ⟨g, cap, cur, rfl, hb, hg, hlen, hcap, h1, h2⟩
  · have : ms = [] := List.eq_nil_of_length_eq_zero h0
    subst this
    exact ⟨none, 0, rfl, MkS.nil w⟩
  · unfold maxLen at hcap
    refine ⟨some ⟨g, 0, none⟩, cap, rfl, hlen, by omega, hf, .inr ⟨g, 0, rfl, heap_lt hg, fun i m hm => ?_⟩⟩
    have hi : i < ms.length := (List.getElem?_eq_some_iff.1 hm).1
    have c0 := World.ownsRow.cellAt h' (i * 2) (by omega)
    have c1 := World.ownsRow.cellAt h' (i * 2 + 1) (by omega)
    have e0 := flat2 ms i 0 (by omega)
    have e1 := flat2 ms i 1 (by omega)
    rw [hm] at e0 e1
    rw [Nat.add_zero] at e0
    rw [e0] at c0
    rw [e1] at c1
    simp only [Nat.zero_add]
    exact ⟨c0, c1⟩
theorem OwnM.new {w : World} {base : Nat} {v : Value} {ms : List Ev.M} (h : OwnM w base v ms) : ms = [] ∨ ∀ a n c, v = .slice (some a) n c → base ≤ a.block := by
  rcases h.2 with ⟨_, h0⟩ | ⟨g, cap, cur, rfl, hb, _⟩
  · exact .inl (List.eq_nil_of_length_eq_zero h0)
  · exact .inr fun a n c e => by cases e; exact hb
end Go.Proofs.YtlfmpoinjbmjoaaGreatDoor
