/-
  Turn, of two boxes.
-/
import Derived.Test.YtcachpcefeoolaaMbox3
namespace Go.Proofs.Ytcachpcefeoolaa
open Go.ChangeShapes Go.WideShapes Go.ChangeAt Go.RowKit

theorem Bx.over {w w' : World} {b c cap b' c' cap' : Nat} {l l' : List ByteArray} (Y : Bx w b' c' cap' l') (X : Bx w b c cap l) (h : c' ≠ c) (k : But (fun i => i = c) w w') : Bx w' b' c' cap' l' := Y.but k (Y.apart X.ch) h

/-- what Turn tells of two boxes from a place on, and what they have then -/
structure Tw where
  at_ : Nat
  s : ByteArray
  is : Bool
  l : List ByteArray
  l' : List ByteArray
def tw1 : List ByteArray → List ByteArray → Tw
  | x :: t, l' => ⟨0, x, true, t, l'⟩
  | [], x :: t => ⟨1, x, true, [], t⟩
  | [], [] => ⟨0, ⟨#[]⟩, false, [], []⟩
def tw2 : List ByteArray → List ByteArray → Tw
  | l, x :: t => ⟨1, x, true, l, t⟩
  | x :: t, [] => ⟨0, x, true, t, []⟩
  | [], [] => ⟨0, ⟨#[]⟩, false, [], []⟩
def tw (z : Int) (l l' : List ByteArray) : Tw := if z = 0 then tw1 l l' else if z = 1 then tw2 l l' else ⟨0, ⟨#[]⟩, false, l, l'⟩
def Tw.val (t : Tw) : Value := .tuple #[.int .i64 t.at_, .string t.s, .bool t.is]

/-- two pointers to boxes, in a row -/
def Two (w : World) (g b b' : Nat) : Prop := w.heap[g]? = some (.cells #[.pointer (some ⟨b, 0, none⟩), .pointer (some ⟨b', 0, none⟩)] 23 (0, 0))
theorem two_new (w : World) (b b' : Nat) : Two (w.alloc (.cells #[.pointer (some ⟨b, 0, none⟩), .pointer (some ⟨b', 0, none⟩)] 23)) w.heap.size b b' := heap_alloc_new w _

theorem turn2 (g cp b c cap b' c' cap' : Nat) (l l' : List ByteArray) (z : Int) (w : World) (hg : Two w g b b') (X : Bx w b c cap l) (Y : Bx w b' c' cap' l') (h : c' ≠ c) :
    Calls Try.prog 22 #[.slice (some ⟨g, 0, none⟩) 2 cp, .int .i64 z] w fun e w' =>
      e = .returned (tw z l l').val ∧ Bx w' b c cap (tw z l l').l ∧ Bx w' b' c' cap' (tw z l l').l' ∧ But (fun i => i = c ∨ i = c') w w' := by
  have tt : ∀ f : Nat, f < 2 → z = f → _ := fun f hf _ => turn_any 2 (fun i => if i = 0 then ⟨b, c, cap, l⟩ else ⟨b', c', cap', l'⟩) g cp f w (by decide) hf (heap_lt hg)
    (by intro i hi; match i, hi with | 0, _ => simp [World.cell?, show w.heap[g]? = _ from hg] | 1, _ => simp [World.cell?, show w.heap[g]? = _ from hg])
    (by intro i hi; match i, hi with | 0, _ => exact X | 1, _ => exact Y)
  by_cases h0 : z = 0
  · subst h0
    refine (tt 0 (by decide) rfl).mono ?_
    rintro e w' (⟨hn, rfl, k⟩ | ⟨i, x, t, hi, he, hx, rfl, y, k⟩)
    · have e1 := hn 0 (by decide)
      have e2 := hn 1 (by decide)
      simp at e1 e2
      subst e1 e2
      exact ⟨rfl, X.kept k, Y.kept k, k.but⟩
    · match i, hi with
      | 0, _ =>
        simp at hx y k
        subst hx
        refine ⟨?_, y, Y.over X h k, ?_⟩
        · simp [tw, tw1, Tw.val]
        · exact ⟨k.os, k.tape, k.output, k.size, fun j hj hn => k.block j hj (fun e => hn (Or.inl e))⟩
      | 1, _ =>
        have e1 := he 0 (by decide)
        simp at e1 hx y k
        subst e1 hx
        refine ⟨?_, X.over Y h.symm k, y, ?_⟩
        · simp [tw, tw1, Tw.val]
        · exact ⟨k.os, k.tape, k.output, k.size, fun j hj hn => k.block j hj (fun e => hn (Or.inr e))⟩
  · by_cases h1 : z = 1
    · subst h1
      refine (tt 1 (by decide) rfl).mono ?_
      rintro e w' (⟨hn, rfl, k⟩ | ⟨i, x, t, hi, he, hx, rfl, y, k⟩)
      · have e1 := hn 0 (by decide)
        have e2 := hn 1 (by decide)
        simp at e1 e2
        subst e1 e2
        exact ⟨rfl, X.kept k, Y.kept k, k.but⟩
      · match i, hi with
        | 0, _ =>
          simp at hx y k
          subst hx
          refine ⟨?_, X.over Y h.symm k, y, ?_⟩
          · cases l <;> simp [tw, tw2, Tw.val]
          · exact ⟨k.os, k.tape, k.output, k.size, fun j hj hn => k.block j hj (fun e => hn (Or.inr e))⟩
        | 1, _ =>
          have e1 := he 0 (by decide)
          simp at e1 hx y k
          subst e1 hx
          refine ⟨?_, y, Y.over X h k, ?_⟩
          · simp [tw, tw2, Tw.val]
          · exact ⟨k.os, k.tape, k.output, k.size, fun j hj hn => k.block j hj (fun e => hn (Or.inl e))⟩
    · have e : tw z l l' = ⟨0, ⟨#[]⟩, false, l, l'⟩ := by unfold tw; rw [if_neg h0, if_neg h1]
      rw [e]
      exact (turn_no 2 (some ⟨g, 0, none⟩) cp z w (by omega)).mono fun e w' ⟨he, k⟩ => ⟨he, X.kept k, Y.kept k, k.but⟩
end Go.Proofs.Ytcachpcefeoolaa
