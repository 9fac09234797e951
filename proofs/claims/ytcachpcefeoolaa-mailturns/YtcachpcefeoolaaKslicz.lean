/-
  A slice of texts that comes in: how great its texts may be.
-/
import Derived.Test.YtcachpcefeoolaaKslice
import Derived.SizedLaws
namespace Go.Proofs.Ytcachpcefeoolaa
open Go.ChangeShapes Go.WideShapes Go.ChangeAt Go.RowKit

theorem weights_all {H : Type} {P : Program} {e : TypeId} : ∀ {ds : List (DataW H)} {i : Nat} {d : DataW H} {n : Nat}, ds[i]? = some d → n ∈ d.weights P e → n ∈ DataW.weightsAll P e ds
  | d0 :: ds, 0, d, n, hd, hn => by
    simp only [List.getElem?_cons_zero, Option.some.injEq] at hd
    subst hd
    simp only [DataW.weightsAll, List.mem_append]
    exact Or.inl hn
  | d0 :: ds, i + 1, d, n, hd, hn => by
    simp only [List.getElem?_cons_succ] at hd
    simp only [DataW.weightsAll, List.mem_append]
    exact Or.inr (weights_all hd hn)
  | [], _, _, _, hd, _ => by simp at hd

theorem open_strargz {H : Type} {enc : TypeId × Value → H} {W : World} {base : Nat} {v : Value} {d : DataW H} {ps : List MemPlace} (hv : Value.okWide Try.prog W .any base 36 v)
    (h : DataW.Trod enc Try.prog W 0 (fun _ => true) true 36 v d ps) : ∃ av len cap z, v = .slice av len cap ∧ StrArg W av len cap z ∧ ∀ i, i < len → (z i).size ∈ d.weights Try.prog 36 := by
  obtain ⟨a0, l0, c0, rfl⟩ := okWide_slice Try.underlying36 hv
  obtain ⟨fuel, hf⟩ := h
  rcases Deep.open_strs Try.underlying36 Try.underlying9 cellsStr hf with ⟨hcs, hx⟩ | ⟨a, len, cap, m, Sx, hcs, _, hl, hm, hmm, hx, hcell⟩
  · simp only [Value.cells, List.cons.injEq, Value.slice.injEq, and_true] at hcs
    obtain ⟨rfl, rfl, rfl⟩ := hcs
    exact ⟨_, _, _, fun _ => ⟨#[]⟩, rfl, ⟨Nat.le_refl _, Nat.zero_le _, fun _ => Nat.zero_le _, .inl rfl⟩, fun i hi => absurd hi (Nat.not_lt_zero _)⟩
  · simp only [Value.cells, List.cons.injEq, Value.slice.injEq, and_true] at hcs
    obtain ⟨rfl, rfl, rfl⟩ := hcs
    simp only [Prod.mk.injEq] at hx
    obtain ⟨rfl, _⟩ := hx
    have hlm : l0 ≤ m := by rw [hmm]; split <;> omega
    refine ⟨_, _, _, fun i => if i < m then Sx i else ⟨#[]⟩, rfl, ⟨hl, hm, fun i => ?_, ?_⟩, fun i hi => ?_⟩
    · by_cases hi : i < m
      · simp only [if_pos hi]; exact (hcell i hi).2
      · simp only [if_neg hi]; exact Nat.zero_le _
    · by_cases h0 : l0 = 0
      · exact .inl h0
      · right
        obtain ⟨b, off, spot⟩ := a
        have hspot : spot = none := by simpa [Addr.add] using World.cell?_spot (hcell 0 (by omega)).1
        subst hspot
        have hc : ∀ j, j < m → W.cell? ⟨b, off + j, none⟩ = some (.string (Sx j)) := fun j hj => by rw [← Go.WideShapes.add_plain]; exact (hcell j hj).1
        refine ⟨b, off, rfl, World.block_lt_of_cell? W _ (hc 0 (by omega)), fun i hi => ?_⟩
        rw [hc i (by omega)]
        simp only [if_pos (show i < m by omega)]
    · simp only [if_pos (show i < m by omega)]
      have e : ((List.range l0).map fun i => (DataW.lit (.string (Sx i).data.toList) : DataW H))[i]? = some (.lit (.string (Sx i).data.toList)) := by simp [hi]
      simp only [DataW.weights, Try.underlying36, List.mem_cons, List.mem_append]
      exact .inr (.inl (weights_all e (by simp [DataW.weights])))
end Go.Proofs.Ytcachpcefeoolaa
