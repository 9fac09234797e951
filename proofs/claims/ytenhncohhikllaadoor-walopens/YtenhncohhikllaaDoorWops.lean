/-
  A script of calls that comes in.
-/
import Derived.Test.YtenhncohhikllaaDoorVbase
import Derived.Carry
import Derived.Deep.Slices
namespace Go.Proofs.YtenhncohhikllaaDoor
open Go.ChangeShapes Go.WideShapes Go.ChangeAt Go.RowKit

theorem laidOut : laidOutB Tryd.prog = true := by kernel_rfl

/-- a call of a script -/
structure OpV where
  kind : Int
  s : ByteArray
  n : Int
def OpV.cells (o : OpV) : List Value := [.int .i64 o.kind, .string o.s, .int .i64 o.n]
def OpV.fits (o : OpV) : Prop := (Lit.int .i64 o.kind).wf = true ∧ o.s.size ≤ maxLen ∧ (Lit.int .i64 o.n).wf = true

/-- the calls of a slice, in memory -/
def OpArg (W : World) (av : Option Addr) (len cap : Nat) (z : Nat → OpV) : Prop :=
  len ≤ cap ∧ cap ≤ maxLen ∧ (∀ i, (z i).fits) ∧ (len = 0 ∨ ∃ b off, av = some ⟨b, off, none⟩ ∧ b < W.heap.size ∧ ∀ i, i < len → ∀ j v, (z i).cells[j]? = some v → W.cell? ⟨b, off + i * 3 + j, none⟩ = some v)

set_option maxRecDepth 100000 in
theorem open_ops {H : Type} {enc : TypeId × Value → H} {W : World} {base : Nat} {v : Value} {d : DataW H} {ps : List MemPlace} (hv : Value.okWide Tryd.prog W .any base 22 v)
    (h : DataW.Trod enc Tryd.prog W 0 (fun _ => true) true 22 v d ps) : ∃ av len cap z, v = .slice av len cap ∧ OpArg W av len cap z := by
  obtain ⟨a0, l0, c0, rfl⟩ := okWide_slice Tryd.underlying22 hv
  obtain ⟨fuel, hf⟩ := h
  have hC : Tryd.prog.cellsOf 40 = 3 := by kernel_rfl
  have hz : (⟨0, ⟨#[]⟩, 0⟩ : OpV).fits := ⟨by decide, Nat.zero_le _, by decide⟩
  rcases Deep.open_slice Tryd.underlying22 hf with ⟨hcs, hx⟩ | ⟨a, len, cap, m, n, D, Pl, hcs, _, hl, hm, hmm, _, hi⟩
  · simp only [Value.cells, List.cons.injEq, Value.slice.injEq, and_true] at hcs
    obtain ⟨rfl, rfl, rfl⟩ := hcs
    exact ⟨_, _, _, fun _ => ⟨0, ⟨#[]⟩, 0⟩, rfl, Nat.le_refl _, Nat.zero_le _, fun _ => hz, .inl rfl⟩
  · simp only [Value.cells, List.cons.injEq, Value.slice.injEq, and_true] at hcs
    obtain ⟨rfl, rfl, rfl⟩ := hcs
    have hlm : l0 ≤ m := by rw [hmm]; split <;> omega
    have hO : ∀ i, i < m → ∃ o : OpV, o.fits ∧ ∀ j v, o.cells[j]? = some v → W.cell? (a.add (i * 3 + j)) = some v := by
      intro i him
      obtain ⟨cs, hc, ht⟩ := hi i him
      rw [hC] at hc
      obtain ⟨_, hcl, hat⟩ := World.cells?_some hc
      obtain ⟨ys, n', _, _, _, hyl, hfl⟩ := DataW.trod_struct Tryd.underlying40 ht
      match cs, hcl with
      | [c0, c1, c2], _ =>
        have e0 : ∃ y, DataW.trod enc Tryd.prog W 0 (fun _ => true) true n' 3 [c0] = some y := ⟨_, (hfl 0 _ rfl).trans (List.getElem?_eq_getElem (by rw [hyl]; decide))⟩
        have e1 : ∃ y, DataW.trod enc Tryd.prog W 0 (fun _ => true) true n' 9 [c1] = some y := ⟨_, (hfl 1 _ rfl).trans (List.getElem?_eq_getElem (by rw [hyl]; decide))⟩
        have e2 : ∃ y, DataW.trod enc Tryd.prog W 0 (fun _ => true) true n' 3 [c2] = some y := ⟨_, (hfl 2 _ rfl).trans (List.getElem?_eq_getElem (by rw [hyl]; decide))⟩
        obtain ⟨_, e0⟩ := e0
        obtain ⟨_, e1⟩ := e1
        obtain ⟨_, e2⟩ := e2
        obtain ⟨x0, q0, _, w0⟩ := DataW.trod_int Tryd.underlying3 e0
        obtain ⟨x1, q1, _, w1⟩ := DataW.trod_string Tryd.underlying9 e1
        obtain ⟨x2, q2, _, w2⟩ := DataW.trod_int Tryd.underlying3 e2
        cases q0; cases q1; cases q2
        refine ⟨⟨x0, x1, x2⟩, ⟨w0, w1, w2⟩, fun j v hj => ?_⟩
        have hj4 : j < 3 := by
          rcases Nat.lt_or_ge j 3 with h | h
          · exact h
          · rw [OpV.cells, List.getElem?_eq_none (by simpa using h)] at hj; cases hj
        have := hat j hj4
        rw [Go.Deep.add_add] at this
        rw [this]
        exact hj
    have hz' : ∃ z : Nat → OpV, (∀ i, (z i).fits) ∧ ∀ i, i < m → ∀ j v, (z i).cells[j]? = some v → W.cell? (a.add (i * 3 + j)) = some v := by
      refine ⟨fun i => if hi : i < m then (hO i hi).choose else ⟨0, ⟨#[]⟩, 0⟩, fun i => ?_, fun i hi => ?_⟩
      · by_cases h : i < m
        · simp only [dif_pos h]; exact (hO i h).choose_spec.1
        · simp only [dif_neg h]; exact hz
      · simp only [dif_pos hi]; exact (hO i hi).choose_spec.2
    obtain ⟨z, hz1, hz2⟩ := hz'
    refine ⟨_, _, _, z, rfl, hl, hm, hz1, ?_⟩
    by_cases h0 : l0 = 0
    · exact .inl h0
    · right
      obtain ⟨b, off, spot⟩ := a
      have hspot : spot = none := by simpa [Addr.add] using World.cell?_spot (hz2 0 (by omega) 0 _ rfl)
      subst hspot
      have hc : ∀ i, i < m → ∀ j v, (z i).cells[j]? = some v → W.cell? ⟨b, off + i * 3 + j, none⟩ = some v := fun i hi j v hj => by
        have := hz2 i hi j v hj
        rw [Go.WideShapes.add_plain] at this
        rw [← this, Nat.add_assoc]
      exact ⟨b, off, rfl, World.block_lt_of_cell? W _ (hc 0 (by omega) 0 _ rfl), fun i hi => hc i (by omega)⟩

/-- a call of a script, in memory -/
theorem OpArg.at {W : World} {av : Option Addr} {len cap : Nat} {z : Nat → OpV} (h : OpArg W av len cap z) {k : Nat} (hk : k < len) :
    ∃ b off, av = some ⟨b, off, none⟩ ∧ b < W.heap.size ∧ W.cell? ⟨b, off + k * 3, none⟩ = some (.int .i64 (z k).kind) ∧ W.cell? ⟨b, off + k * 3 + 1, none⟩ = some (.string (z k).s) ∧ W.cell? ⟨b, off + k * 3 + 2, none⟩ = some (.int .i64 (z k).n) ∧ (z k).s.size ≤ 9223372036854775807 := by
  obtain ⟨_, _, h3, h4⟩ := h
  rcases h4 with h4 | ⟨b, off, rfl, hb, hc⟩
  · omega
  · exact ⟨b, off, rfl, hb, hc k hk 0 _ rfl, hc k hk 1 _ rfl, hc k hk 2 _ rfl, by have := (h3 k).2.1; unfold maxLen at this; omega⟩
end Go.Proofs.YtenhncohhikllaaDoor
