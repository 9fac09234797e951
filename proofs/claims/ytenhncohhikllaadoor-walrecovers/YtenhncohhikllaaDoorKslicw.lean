/-
  A slice of texts that comes in, beside a script (laidOut stands in Dops).
-/
import Derived.Test.YtenhncohhikllaaDoorWops
import Derived.Carry
import Derived.Deep.Strs
namespace Go.Proofs.YtenhncohhikllaaDoor
open Go.ChangeShapes Go.WideShapes Go.ChangeAt Go.RowKit


theorem cellsStr : Tryd.prog.cellsOf 9 = 1 := by kernel_rfl

/-- the texts of a slice, in memory -/
def StrArg (W : World) (av : Option Addr) (len cap : Nat) (z : Nat → ByteArray) : Prop :=
  len ≤ cap ∧ cap ≤ maxLen ∧ (∀ i, (z i).size ≤ maxLen) ∧ (len = 0 ∨ ∃ b off, av = some ⟨b, off, none⟩ ∧ b < W.heap.size ∧ ∀ i, i < len → W.cell? ⟨b, off + i, none⟩ = some (.string (z i)))

set_option maxRecDepth 100000 in
theorem open_strarg {H : Type} {enc : TypeId × Value → H} {W : World} {base : Nat} {v : Value} {d : DataW H} {ps : List MemPlace} (hv : Value.okWide Tryd.prog W .any base 49 v)
    (h : DataW.Trod enc Tryd.prog W 0 (fun _ => true) true 49 v d ps) : ∃ av len cap z, v = .slice av len cap ∧ StrArg W av len cap z := by
  obtain ⟨a0, l0, c0, rfl⟩ := okWide_slice Tryd.underlying49 hv
  obtain ⟨fuel, hf⟩ := h
  rcases Deep.open_strs Tryd.underlying49 Tryd.underlying9 cellsStr hf with ⟨hcs, hx⟩ | ⟨a, len, cap, m, Sx, hcs, _, hl, hm, hmm, hx, hcell⟩
  · simp only [Value.cells, List.cons.injEq, Value.slice.injEq, and_true] at hcs
    obtain ⟨rfl, rfl, rfl⟩ := hcs
    exact ⟨_, _, _, fun _ => ⟨#[]⟩, rfl, Nat.le_refl _, Nat.zero_le _, fun _ => Nat.zero_le _, .inl rfl⟩
  · simp only [Value.cells, List.cons.injEq, Value.slice.injEq, and_true] at hcs
    obtain ⟨rfl, rfl, rfl⟩ := hcs
    have hlm : l0 ≤ m := by rw [hmm]; split <;> omega
    refine ⟨_, _, _, fun i => if i < m then Sx i else ⟨#[]⟩, rfl, hl, hm, fun i => ?_, ?_⟩
    · by_cases hi : i < m
      · simp only [if_pos hi]; exact (hcell i hi).2
      · simp only [if_neg hi]; exact Nat.zero_le _
    · by_cases h0 : l0 = 0
      · exact .inl h0
      · right
        obtain ⟨b, off, spot⟩ := a
        have hspot : spot = none := by simpa [Addr.add] using World.cell?_spot (hcell 0 (by omega)).1
        subst hspot
        have hc : ∀ j, j < m → W.cell? ⟨b, off + j, none⟩ = some (.string (Sx j)) := fun j hj => by rw [← Go.WideShapes.add_plain]; exact (hcell j hj).1
        refine ⟨b, off, rfl, World.block_lt_of_cell? W _ (hc 0 (by omega)), fun i hi => ?_⟩
        rw [hc i (by omega)]
        simp only [if_pos (show i < m by omega)]
end Go.Proofs.YtenhncohhikllaaDoor
