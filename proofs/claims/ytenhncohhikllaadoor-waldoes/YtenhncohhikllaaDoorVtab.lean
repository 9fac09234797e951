/-
  From what a row lists of the table of widths to the table in memory.
-/
import Derived.Test.YtenhncohhikllaaDoorVbase
import Derived.Deep.Strs
import Derived.Lib.LaidTab
namespace Go.Proofs.YtenhncohhikllaaDoor
open Go.ChangeShapes Go.WideShapes Go.ChangeAt Go.RowKit

theorem gWidths : Tryd.prog.globalNamed "rivulet/varint.widths" = some 0 := by kernel_rfl
theorem gWidthsType : (Tryd.prog.globals[0]?).map (·.type) = some 118 := by kernel_rfl
theorem cellsWidths : Tryd.prog.cellsOf 118 = 27 := by kernel_rfl
theorem cellsWidth : Tryd.prog.cellsOf 117 = 3 := by kernel_rfl
theorem cellsU8 : Tryd.prog.cellsOf 5 = 1 := by kernel_rfl
theorem cellsU64 : Tryd.prog.cellsOf 62 = 1 := by kernel_rfl

theorem laidWidths_eq : (Rows.laid_rivulet_varint_widths : DataW Unit) = .agg ((List.range 9).map fun k => .agg [.lit (.int .u8 (Vn.vfirst k)), .lit (.int .u64 (Vn.vbase k)), .lit (.int .u64 (Vn.vtop k))]) := by rfl

theorem one_of {l : List Value} {i j : Nat} {v : Value} (h : (((l.drop i).take 3).drop j).take 1 = [v]) (hj : j < 3) : l[i + j]? = some v := by
  have h1 := congrArg (fun x : List Value => x[0]?) h
  simp only [List.getElem?_take, List.getElem?_drop] at h1
  simpa [hj] using h1

theorem tab_of_trod {W : World} {fuel : Nat} {cs : Array Value} {p : List MemPlace} (hvar : W.var? Tryd.prog "rivulet/varint.widths" = some cs)
    (hd : DataW.trod (fun _ => ()) Tryd.prog W 0 (fun _ => true) false fuel 118 cs.toList = some (Rows.laid_rivulet_varint_widths, p)) : Tab W := by
  obtain ⟨xs, m, _, hx, hl, hxl, hel⟩ := DataW.trod_array Tryd.underlying118 hd
  rw [laidWidths_eq] at hx
  have hmap : xs.map (·.1) = (List.range 9).map fun k => (DataW.agg [.lit (.int .u8 (Vn.vfirst k)), .lit (.int .u64 (Vn.vbase k)), .lit (.int .u64 (Vn.vtop k))] : DataW Unit) := by
    have := congrArg Prod.fst hx
    simp only [DataW.agg.injEq] at this
    exact this.symm
  have hk : ∀ k, k < 9 → cs[k * 3]? = some (.int .u8 (Vn.vfirst k)) ∧ cs[k * 3 + 1]? = some (.int .u64 (Vn.vbase k)) ∧ cs[k * 3 + 2]? = some (.int .u64 (Vn.vtop k)) := by
    intro k hk
    have he := hel k hk
    rw [cellsWidth] at he
    have hd' := congrArg (fun l : List (DataW Unit) => l[k]?) hmap
    simp only [List.getElem?_map, List.getElem?_range hk, Option.map_some] at hd'
    obtain ⟨y, hy, hy1⟩ := Option.map_eq_some_iff.1 hd'
    rw [hy] at he
    obtain ⟨y0, y1, y2, n, hyy, _, t0, t1, t2⟩ := Deep.trod_struct3 Tryd.underlying117 he
    rw [hyy] at hy1
    simp only [DataW.agg.injEq, List.cons.injEq, and_true] at hy1
    obtain ⟨q0, q1, q2⟩ := hy1
    simp only [cellsU8, cellsU64] at t0 t1 t2
    obtain ⟨n0, e0, f0, _⟩ := DataW.trod_int Tryd.underlying5 t0
    obtain ⟨n1, e1, f1, _⟩ := DataW.trod_int Tryd.underlying62 t1
    obtain ⟨n2, e2, f2, _⟩ := DataW.trod_int Tryd.underlying62 t2
    rw [f0] at q0; rw [f1] at q1; rw [f2] at q2
    simp only [DataW.lit.injEq, Lit.int.injEq, true_and] at q0 q1 q2
    subst q0 q1 q2
    have r0 := one_of e0 (by decide)
    have r1 := one_of e1 (by decide)
    have r2 := one_of e2 (by decide)
    simp only [Array.getElem?_toList] at r0 r1 r2
    exact ⟨r0, r1, r2⟩
  have hc : ∀ i, W.cell? ⟨0, i, none⟩ = cs[i]? := fun i => World.var?_cell gWidths hvar i
  refine ⟨?_, fun k h => (hc _).trans (hk k h).1, fun k h => (hc _).trans (hk k h).2.1, fun k h => (hc _).trans (hk k h).2.2⟩
  rcases Nat.lt_or_ge 0 W.heap.size with h | h
  · exact h
  · have h0 := (hc (0 * 3)).trans (hk 0 (by decide)).1
    simp only [World.cell?, Array.getElem?_eq_none h] at h0
    cases h0

theorem tab_of_head {W : World} {rest : List (String × DataW Unit)} (h : laidMet Tryd.prog (("rivulet/varint.widths", Rows.laid_rivulet_varint_widths) :: rest) W) : Tab W := by
  obtain ⟨ps, ⟨g', t', cs, fuel, p, q, hg', ht', hvar, hd, _, _⟩, _⟩ := h
  obtain rfl := Option.some.inj (gWidths.symm.trans hg')
  obtain rfl := Option.some.inj (gWidthsType.symm.trans ht')
  exact tab_of_trod hvar hd
end Go.Proofs.YtenhncohhikllaaDoor
