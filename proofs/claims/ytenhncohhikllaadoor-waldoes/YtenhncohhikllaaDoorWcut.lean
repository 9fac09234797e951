/-
  The walk of the law's Cut.
-/
import Derived.Test.YtenhncohhikllaaDoorVbase
import Derived.Carry
import Derived.Deep.Slices
import Derived.Test.YtenhncohhikllaaDoorKrows
import Derived.Deep.AppendLies
import Derived.RangeFuncBox
import Derived.Deep.DeepCutAuto
import Derived.OwnWalk
namespace Go.Proofs.YtenhncohhikllaaDoor
open Go.ChangeShapes Go.WideShapes Go.ChangeAt Go.RowKit

theorem laidOut : laidOutB Tryd.prog = true := by kernel_rfl

/-- a call of a script -/
structure OpV where
  kind : Int
  s : ByteArray
  n : Int
def OpV.cells (o : OpV) : List Value := [.int .i64 o.kind, .string o.s, .int .i64 o.n]
def OpV.fits (o : OpV) : Prop := (Lit.int .i64 o.kind).wf = true ∧ o.s.size ≤ maxLen ∧ (Lit.int .i64 o.n).wf = true

/-- the calls of a slice, in memory -/
def OpArg (W : World) (av : Option Addr) (len cap : Nat) (z : Nat → OpV) : Prop :=
  len ≤ cap ∧ cap ≤ maxLen ∧ (∀ i, (z i).fits) ∧ (len = 0 ∨ ∃ b off, av = some ⟨b, off, none⟩ ∧ b < W.heap.size ∧ ∀ i, i < len → ∀ j v, (z i).cells[j]? = some v → W.cell? ⟨b, off + i * 3 + j, none⟩ = some v)

set_option maxRecDepth 100000 in
theorem open_ops {H : Type} {enc : TypeId × Value → H} {W : World} {base : Nat} {v : Value} {d : DataW H} {ps : List MemPlace} (hv : Value.okWide Tryd.prog W .any base 22 v)
    (h : DataW.Trod enc Tryd.prog W 0 (fun _ => true) true 22 v d ps) : ∃ av len cap z, v = .slice av len cap ∧ OpArg W av len cap z := by
  obtain ⟨a0, l0, c0, rfl⟩ := okWide_slice Tryd.underlying22 hv
  obtain ⟨fuel, hf⟩ := h
  have hC : Tryd.prog.cellsOf 40 = 3 := by kernel_rfl
  have hz : (⟨0, ⟨#[]⟩, 0⟩ : OpV).fits := ⟨by decide, Nat.zero_le _, by decide⟩
  rcases Deep.open_slice Tryd.underlying22 hf with ⟨hcs, hx⟩ | ⟨a, len, cap, m, n, D, Pl, hcs, _, hl, hm, hmm, _, hi⟩
  · simp only [Value.cells, List.cons.injEq, Value.slice.injEq, and_true] at hcs
    obtain ⟨rfl, rfl, rfl⟩ := hcs
    exact ⟨_, _, _, fun _ => ⟨0, ⟨#[]⟩, 0⟩, rfl, Nat.le_refl _, Nat.zero_le _, fun _ => hz, .inl rfl⟩
  · simp only [Value.cells, List.cons.injEq, Value.slice.injEq, and_true] at hcs
    obtain ⟨rfl, rfl, rfl⟩ := hcs
    have hlm : l0 ≤ m := by rw [hmm]; split <;> omega
    have hO : ∀ i, i < m → ∃ o : OpV, o.fits ∧ ∀ j v, o.cells[j]? = some v → W.cell? (a.add (i * 3 + j)) = some v := by
      intro i him
      obtain ⟨cs, hc, ht⟩ := hi i him
      rw [hC] at hc
      obtain ⟨_, hcl, hat⟩ := World.cells?_some hc
      obtain ⟨ys, n', _, _, _, hyl, hfl⟩ := DataW.trod_struct Tryd.underlying40 ht
      match cs, hcl with
      | [c0, c1, c2], _ =>
        have e0 : ∃ y, DataW.trod enc Tryd.prog W 0 (fun _ => true) true n' 3 [c0] = some y := ⟨_, (hfl 0 _ rfl).trans (List.getElem?_eq_getElem (by rw [hyl]; decide))⟩
        have e1 : ∃ y, DataW.trod enc Tryd.prog W 0 (fun _ => true) true n' 9 [c1] = some y := ⟨_, (hfl 1 _ rfl).trans (List.getElem?_eq_getElem (by rw [hyl]; decide))⟩
        have e2 : ∃ y, DataW.trod enc Tryd.prog W 0 (fun _ => true) true n' 3 [c2] = some y := ⟨_, (hfl 2 _ rfl).trans (List.getElem?_eq_getElem (by rw [hyl]; decide))⟩
        obtain ⟨_, e0⟩ := e0
        obtain ⟨_, e1⟩ := e1
        obtain ⟨_, e2⟩ := e2
        obtain ⟨x0, q0, _, w0⟩ := DataW.trod_int Tryd.underlying3 e0
        obtain ⟨x1, q1, _, w1⟩ := DataW.trod_string Tryd.underlying9 e1
        obtain ⟨x2, q2, _, w2⟩ := DataW.trod_int Tryd.underlying3 e2
        cases q0; cases q1; cases q2
        refine ⟨⟨x0, x1, x2⟩, ⟨w0, w1, w2⟩, fun j v hj => ?_⟩
        have hj4 : j < 3 := by
          rcases Nat.lt_or_ge j 3 with h | h
          · exact h
          · rw [OpV.cells, List.getElem?_eq_none (by simpa using h)] at hj; cases hj
        have := hat j hj4
        rw [Go.Deep.add_add] at this
        rw [this]
        exact hj
    have hz' : ∃ z : Nat → OpV, (∀ i, (z i).fits) ∧ ∀ i, i < m → ∀ j v, (z i).cells[j]? = some v → W.cell? (a.add (i * 3 + j)) = some v := by
      refine ⟨fun i => if hi : i < m then (hO i hi).choose else ⟨0, ⟨#[]⟩, 0⟩, fun i => ?_, fun i hi => ?_⟩
      · by_cases h : i < m
        · simp only [dif_pos h]; exact (hO i h).choose_spec.1
        · simp only [dif_neg h]; exact hz
      · simp only [dif_pos hi]; exact (hO i hi).choose_spec.2
    obtain ⟨z, hz1, hz2⟩ := hz'
    refine ⟨_, _, _, z, rfl, hl, hm, hz1, ?_⟩
    by_cases h0 : l0 = 0
    · exact .inl h0
    · right
      obtain ⟨b, off, spot⟩ := a
      have hspot : spot = none := by simpa [Addr.add] using World.cell?_spot (hz2 0 (by omega) 0 _ rfl)
      subst hspot
      have hc : ∀ i, i < m → ∀ j v, (z i).cells[j]? = some v → W.cell? ⟨b, off + i * 3 + j, none⟩ = some v := fun i hi j v hj => by
        have := hz2 i hi j v hj
        rw [Go.WideShapes.add_plain] at this
        rw [← this, Nat.add_assoc]
      exact ⟨b, off, rfl, World.block_lt_of_cell? W _ (hc 0 (by omega) 0 _ rfl), fun i hi => hc i (by omega)⟩

/-- a call of a script, in memory -/
theorem OpArg.at {W : World} {av : Option Addr} {len cap : Nat} {z : Nat → OpV} (h : OpArg W av len cap z) {k : Nat} (hk : k < len) :
    ∃ b off, av = some ⟨b, off, none⟩ ∧ b < W.heap.size ∧ W.cell? ⟨b, off + k * 3, none⟩ = some (.int .i64 (z k).kind) ∧ W.cell? ⟨b, off + k * 3 + 1, none⟩ = some (.string (z k).s) ∧ W.cell? ⟨b, off + k * 3 + 2, none⟩ = some (.int .i64 (z k).n) ∧ (z k).s.size ≤ 9223372036854775807 := by
  obtain ⟨_, _, h3, h4⟩ := h
  rcases h4 with h4 | ⟨b, off, rfl, hb, hc⟩
  · omega
  · exact ⟨b, off, rfl, hb, hc k hk 0 _ rfl, hc k hk 1 _ rfl, hc k hk 2 _ rfl, by have := (h3 k).2.1; unfold maxLen at this; omega⟩
end Go.Proofs.YtenhncohhikllaaDoor

namespace Go.Proofs.YtenhncohhikllaaDoor
open Go.ChangeShapes Go.WideShapes Go.ChangeAt Go.RowKit

/-- rows of calls of the law's own -/
def OwnO (w : World) (base : Nat) (v : Value) (os : List OpV) : Prop := w.ownsRow base 40 3 v os.length (os.flatMap OpV.cells)
theorem infoOp : (Tryd.prog.info? 40).map (fun i => (i.zero, i.size, i.bytes)) = some (some (.agg #[.int .i64 0, .string ⟨#[]⟩, .int .i64 0]), 3, 32) := by kernel_rfl
/-- its texts cut -/
def OpV.cut (o : OpV) : OpV := ⟨o.kind, o.s.extract 0 (min (o.s.size : Int) 60).toNat, o.n⟩

theorem Kept.grown' {a w w' : World} {row : Option Nat} (h : Kept a w) (hg : w.grownBy w' row) (hr : ∀ k, row = some k → a.heap.size ≤ k) : Kept a w' := Below.grown h hg h.size hr

set_option maxHeartbeats 2000000 in
set_option maxRecDepth 100000 in
theorem cut_any_ops (av : Option Addr) (len cap : Nat) (z : Nat → OpV) (w : World) (h : OpArg w av len cap z) :
    Calls Tryd.prog 9 #[.slice av len cap] w fun e w' => ∃ v, e = .returned v ∧ OwnO w' w.heap.size v ((List.range (min len 40)).map fun i => (z i).cut) ∧ Kept w w' := by
  obtain ⟨h1, h2, h3, h4⟩ := h
  obtain ⟨i0, hi, hz0, hz1, hz2⟩ := info_parts infoOp
  have Hi := Lib.hid hi
  have Hz0 := Lib.hid hz0
  have Hz1 := Lib.hid hz1
  have Hz2 := Lib.hid hz2
  clear hi hz0 hz1 hz2
  unfold maxLen at h2
  go_enter Tryd.func9, Tryd.ntmps9
  go_wp2
  go_loopw [3, 4] (fun ov iv wr => ∃ (k : Nat) (a6 : Option Addr) (c6 : Nat), k ≤ len ∧ k ≤ 40 ∧ iv = .int .i64 k ∧ ov = .slice a6 k c6 ∧ wr.ownsRow w.heap.size 40 3 (.slice a6 k c6) k (((List.range k).map fun i => (z i).cut).flatMap OpV.cells) ∧ Kept w wr) (fun _ iv _ => 40 - (intOf iv).toNat)
  case atStart =>
    refine ⟨0, _, 0, Nat.zero_le _, Nat.zero_le _, rfl, rfl, ?_, (Kept.refl w).alloc _⟩
    exact World.ownsRow_made w #[] 0 (Nat.le_refl _) (Nat.zero_le _) rfl
  case round =>
    obtain ⟨k, a6, c6, hk1, hk2, rfl, rfl, hrow, hK⟩ := hrel
    by_cases hlt : k < len ∧ k < 40
    · obtain ⟨hlt1, hlt2⟩ := hlt
      rcases h4 with h4 | ⟨b, off, rfl, hb, hc⟩
      · omega
      · have ck := hc k hlt1
        obtain ⟨g0, g1, g2⟩ := h3 k
        obtain ⟨K0, F0, I0, hz⟩ : ∃ K0 F0 I0, z k = ⟨K0, F0, I0⟩ := ⟨_, _, _, rfl⟩
        have hcell : ∀ j v, [Value.int .i64 K0, .string F0, .int .i64 I0][j]? = some v → wr.cell? ⟨b, off + k * 3 + j, none⟩ = some v := fun j v hj => by
          rw [Below.cell hK (p := ⟨b, off + k * 3 + j, none⟩) hb]
          exact ck j v (by rw [hz]; exact hj)
        have d0 := hcell 0 _ rfl
        have d1 := hcell 1 _ rfl
        have d2 := hcell 2 _ rfl
        rw [hz] at g0 g1 g2
        have HZ := Lib.hid hz
        unfold maxLen at g1
        simp only [Nat.add_zero] at d0
        clear hcell ck hc hz h3
        obtain ⟨FC, hFC⟩ : ∃ FC, F0.extract 0 (min (F0.size : Int) 60).toNat = FC := ⟨_, rfl⟩
        have HFC := Lib.hid hFC
        clear hFC
        go_wp2_with (first
          | (at_builtin
             rw [HFC.out]
             refine wpList_append_own _ rfl _ _ 22 rfl w.heap.size 40 i0 (.agg #[.int .i64 0, .string ⟨#[]⟩, .int .i64 0]) 3 32 Tryd.underlying22 Hi.out Hz0.out Hz1.out Hz2.out rfl (by decide) _ _ _ rfl ((hrow.alloc _).alloc _) ⟨wr.heap.size + 1, 0, none⟩ 1 1 [.int .i64 K0, .string FC, .int .i64 I0] rfl rfl
               (World.news_of_block (cs := #[.int .i64 K0, .string FC, .int .i64 I0]) (t := 40) (fr := (0, 0)) (by have := heap_alloc_new (wr.alloc (.cells #[.int .i64 K0, .string FC, .int .i64 I0] 40)) (.cells #[.int .i64 K0, .string FC, .int .i64 I0] 40); rw [World.size_alloc] at this; exact this))
               (by intro u hu; simp at hu; rcases hu with rfl | rfl | rfl <;> rfl) (by unfold maxLen; omega) (by omega) (by have := hK.size; simp; omega) ?_; intro v3 w3 ho3 hg3 _
             obtain ⟨g3, c3, rfl⟩ := ownsRow_succ ho3
             have kk3 : Kept w w3 := (Kept.alloc (Kept.alloc hK _) _).grown' hg3 (fun j hj => (hrow.lt j hj).1)
             have Ho3 := Lib.hid ho3
             have HK3 := Lib.hid kk3
             clear ho3 hg3 kk3
             go_frame)
          | go_in)
        go_roundw
        case rel =>
          refine ⟨k + 1, _, c3, by omega, by omega, by go_num, rfl, ?_, HK3.out⟩
          have e1 : ((List.range (k + 1)).map fun i => (z i).cut).flatMap OpV.cells = ((List.range k).map fun i => (z i).cut).flatMap OpV.cells ++ [.int .i64 K0, .string FC, .int .i64 I0] := by
            rw [List.range_succ, List.map_append, List.flatMap_append, List.map_singleton, HZ.out]
            simp [OpV.cut, OpV.cells, HFC.out]
          rw [e1]
          exact Ho3.out
        case measure => simp [intOf]; omega
    · have hmin : min len 40 = k := by omega
      have Hrow := Lib.hid hrow
      have Hmin := Lib.hid hmin
      clear hrow hmin
      by_cases hl40 : k < len
      · have hk40 : ¬ k < 40 := fun h => hlt ⟨hl40, h⟩
        go_wp2
        go_ret
        refine ⟨_, rfl, ?_, hK⟩
        rw [Hmin.out]
        unfold OwnO
        rw [List.length_map, List.length_range]
        exact Hrow.out
      · go_wp2
        go_ret
        refine ⟨_, rfl, ?_, hK⟩
        rw [Hmin.out]
        unfold OwnO
        rw [List.length_map, List.length_range]
        exact Hrow.out
end Go.Proofs.YtenhncohhikllaaDoor
