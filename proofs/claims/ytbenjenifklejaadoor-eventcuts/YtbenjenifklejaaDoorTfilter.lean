/-
  Whether a text is a filter: the walk of Filter.
-/
import Derived.Test.YtbenjenifklejaaDoorTright
namespace Go.Proofs.YtbenjenifklejaaDoor
open Go.ChangeShapes Go.WideShapes Go.ChangeAt Go.RowKit Go.Shelf

attribute [local go_sem] Oper.semAt_some

namespace Tp
theorem filt_app : ∀ (q : List L) (y : L) (t : List L), filt (q ++ y :: t) = (q.all part && filt (y :: t))
  | [], y, t => by simp
  | [x], y, t => by simp [filt]
  | x :: z :: q, y, t => by
    have := filt_app (z :: q) y t
    simp only [List.cons_append] at this ⊢
    rw [filt, this]; simp [Bool.and_assoc]
theorem filt_all : ∀ q : List L, q.all part = true → filt q = true
  | [], _ => rfl
  | [x], h => by simp at h; simp [filt, h]
  | x :: z :: q, h => by
    rw [List.all_cons, Bool.and_eq_true] at h
    rw [filt, h.1, filt_all (z :: q) h.2]; rfl
theorem part_hash : part hash = false := by decide
theorem filt_one (x : L) : filt [x] = (part x || x == hash) := rfl
theorem filt_bad {x : L} (h1 : part x = false) (h2 : x ≠ hash) (t : List L) : filt (x :: t) = false := by
  cases t with
  | nil => rw [filt_one, h1]; simp [h2]
  | cons y t => rw [filt, h1]; rfl
/-- levels that may begin a filter; whether # has come -/
def FTo (pre : List L) (ended : Bool) : Prop := (ended = false ∧ pre.all part = true) ∨ (ended = true ∧ ∃ q, pre = q ++ [hash] ∧ q.all part = true)
def FBad (pre : List L) : Prop := 8 < pre.length ∨ ∀ t, filt (pre ++ t) = false
theorem fto_start : FTo [] false := .inl ⟨rfl, rfl⟩
theorem fto_end {pre : List L} {e : Bool} (h : FTo pre e) : filt pre = true := by
  rcases h with ⟨_, h⟩ | ⟨_, q, rfl, h⟩
  · exact filt_all _ h
  · rw [filt_app, h]; rfl
theorem fto_ended {pre : List L} (h : FTo pre true) (x : L) : FBad (pre ++ [x]) := by
  rcases h with ⟨h, _⟩ | ⟨_, q, rfl, h⟩
  · cases h
  · refine .inr fun t => ?_
    have e : q ++ [hash] ++ [x] ++ t = q ++ hash :: x :: t := by simp
    rw [e, filt_app, filt, part_hash]; simp
theorem fto_hash {pre : List L} (h : FTo pre false) : FTo (pre ++ [hash]) true := by
  rcases h with ⟨_, h⟩ | ⟨h, _⟩
  · exact .inr ⟨rfl, pre, rfl, h⟩
  · cases h
theorem fto_part {pre : List L} (h : FTo pre false) {x : L} (hx : part x = true) : FTo (pre ++ [x]) false := by
  rcases h with ⟨_, h⟩ | ⟨h, _⟩
  · exact .inl ⟨rfl, by rw [List.all_append, h]; simp [hx]⟩
  · cases h
theorem fto_bad {pre : List L} {x : L} (h1 : part x = false) (h2 : x ≠ hash) : FBad (pre ++ [x]) := by
  refine .inr fun t => ?_
  have e : pre ++ [x] ++ t = pre ++ x :: t := by simp
  rw [e, filt_app, filt_bad h1 h2]; simp
theorem filter_stop {s : L} {pre : List L} (h : pre <+: lev s) (hb : FBad pre) : filter s = false := by
  obtain ⟨t, ht⟩ := h
  rw [filter, ← ht, List.length_append]
  rcases hb with hb | hb
  · rw [decide_eq_false (by omega)]; rfl
  · rw [hb t]; simp
end Tp

end Go.Proofs.YtbenjenifklejaaDoor
