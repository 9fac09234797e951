/-
  A slice of numbers that comes in.
-/
import Derived.Test.YtehcmdpnkappeaaDoorVbase
import Derived.Carry
namespace Go.Proofs.YtehcmdpnkappeaaDoor
open Go.ChangeShapes Go.WideShapes Go.ChangeAt Go.RowKit

theorem laidOut : laidOutB Tryd.prog = true := by kernel_rfl
theorem cellsU64' : Tryd.prog.cellsOf 22 = 1 := by kernel_rfl

/-- the numbers of a slice, in memory -/
def U64s (W : World) (av : Option Addr) (len cap : Nat) (z : Nat → Nat) : Prop :=
  len ≤ cap ∧ cap ≤ maxLen ∧ (∀ i, z i < 18446744073709551616) ∧ (len = 0 ∨ ∃ b off, av = some ⟨b, off, none⟩ ∧ b < W.heap.size ∧ ∀ i, i < len → W.cell? ⟨b, off + i, none⟩ = some (.int .u64 (z i)))

theorem open_u64s {H : Type} {enc : TypeId × Value → H} {W : World} {base : Nat} {v : Value} {d : DataW H} {ps : List MemPlace} (hv : Value.okWide Tryd.prog W .any base 36 v)
    (h : DataW.Trod enc Tryd.prog W 0 (fun _ => true) true 36 v d ps) : ∃ av len cap z, v = .slice av len cap ∧ U64s W av len cap z := by
  obtain ⟨a0, l0, c0, rfl⟩ := okWide_slice Tryd.underlying36 hv
  obtain ⟨fuel, hf⟩ := h
  rcases open_ints Tryd.underlying36 Tryd.underlying22 cellsU64' hf with ⟨hcs, hx⟩ | ⟨a, len, cap, zs, hcs, _, hl, hm, hz, hx, hcell, hwz⟩
  · simp only [Value.cells, List.cons.injEq, Value.slice.injEq, and_true] at hcs
    obtain ⟨rfl, rfl, rfl⟩ := hcs
    exact ⟨_, _, _, fun _ => 0, rfl, Nat.le_refl _, Nat.zero_le _, fun _ => by show 0 < _; decide, .inl rfl⟩
  · simp only [Value.cells, List.cons.injEq, Value.slice.injEq, and_true] at hcs
    obtain ⟨rfl, rfl, rfl⟩ := hcs
    simp only [if_true] at hz
    have hr := range_u64 hwz
    refine ⟨_, _, _, fun i => (zs[i]?.getD 0).toNat, rfl, hl, hm, fun i => by have := hr i; show (zs[i]?.getD 0).toNat < _; omega, ?_⟩
    by_cases h0 : l0 = 0
    · exact .inl h0
    · right
      obtain ⟨b, off, rfl, hc⟩ := ints_at hcell (by omega)
      refine ⟨b, off, rfl, World.block_lt_of_cell? W _ (hc 0 (by omega)), fun i hi => ?_⟩
      rw [hc i (by omega)]
      have := hr i
      simp only [List.getD_eq_getElem?_getD]
      congr 2
      omega
end Go.Proofs.YtehcmdpnkappeaaDoor
