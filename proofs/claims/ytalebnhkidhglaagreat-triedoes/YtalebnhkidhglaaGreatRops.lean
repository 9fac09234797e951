/-
  A script of calls that comes in, and its cut: the walk of rivuletlaw04.Cut.
-/
import Derived.Test.YtalebnhkidhglaaGreatRfixed
import Derived.Carry
import Derived.Deep.Slices
import Derived.Deep.AppendLies
import Derived.RangeFuncBox
import Derived.Deep.DeepCutAuto
namespace Go.Proofs.YtalebnhkidhglaaGreat
open Go.ChangeShapes Go.WideShapes Go.ChangeAt Go.RowKit Go.Maps

theorem laidOut : laidOutB Tryz.prog = true := by kernel_rfl

/-- a call of a script -/
structure OpV where
  kind : Int
  filter : ByteArray
  id : Int
  topic : ByteArray
def OpV.cells (o : OpV) : List Value := [.int .i64 o.kind, .string o.filter, .int .i64 o.id, .string o.topic]
def OpV.fits (o : OpV) : Prop := (Lit.int .i64 o.kind).wf = true ∧ o.filter.size ≤ maxLen ∧ (Lit.int .i64 o.id).wf = true ∧ o.topic.size ≤ maxLen

/-- the calls of a slice, in memory -/
def OpArg (W : World) (av : Option Addr) (len cap : Nat) (z : Nat → OpV) : Prop :=
  len ≤ cap ∧ cap ≤ maxLen ∧ (∀ i, (z i).fits) ∧ (len = 0 ∨ ∃ b off, av = some ⟨b, off, none⟩ ∧ b < W.heap.size ∧ ∀ i, i < len → ∀ j v, (z i).cells[j]? = some v → W.cell? ⟨b, off + i * 4 + j, none⟩ = some v)

set_option maxRecDepth 100000 in
theorem open_ops {H : Type} {enc : TypeId × Value → H} {W : World} {base : Nat} {v : Value} {d : DataW H} {ps : List MemPlace} (hv : Value.okWide Tryz.prog W .any base 22 v)
    (h : DataW.Trod enc Tryz.prog W 0 (fun _ => true) true 22 v d ps) : ∃ av len cap z, v = .slice av len cap ∧ OpArg W av len cap z := by
  obtain ⟨a0, l0, c0, rfl⟩ := okWide_slice Tryz.underlying22 hv
  obtain ⟨fuel, hf⟩ := h
  have hC : Tryz.prog.cellsOf 31 = 4 := by kernel_rfl
  have hz : (⟨0, ⟨#[]⟩, 0, ⟨#[]⟩⟩ : OpV).fits := ⟨by decide, Nat.zero_le _, by decide, Nat.zero_le _⟩
  rcases Deep.open_slice Tryz.underlying22 hf with ⟨hcs, hx⟩ | ⟨a, len, cap, m, n, D, Pl, hcs, _, hl, hm, hmm, _, hi⟩
  · simp only [Value.cells, List.cons.injEq, Value.slice.injEq, and_true] at hcs
    obtain ⟨rfl, rfl, rfl⟩ := hcs
    exact ⟨_, _, _, fun _ => ⟨0, ⟨#[]⟩, 0, ⟨#[]⟩⟩, rfl, Nat.le_refl _, Nat.zero_le _, fun _ => hz, .inl rfl⟩
  · simp only [Value.cells, List.cons.injEq, Value.slice.injEq, and_true] at hcs
    obtain ⟨rfl, rfl, rfl⟩ := hcs
    have hlm : l0 ≤ m := by rw [hmm]; split <;> omega
    have hO : ∀ i, i < m → ∃ o : OpV, o.fits ∧ ∀ j v, o.cells[j]? = some v → W.cell? (a.add (i * 4 + j)) = some v := by
      intro i him
      obtain ⟨cs, hc, ht⟩ := hi i him
      rw [hC] at hc
      obtain ⟨_, hcl, hat⟩ := World.cells?_some hc
      obtain ⟨ys, n', _, _, _, hyl, hfl⟩ := DataW.trod_struct Tryz.underlying31 ht
      match cs, hcl with
      | [c0, c1, c2, c3], _ =>
        have e0 : ∃ y, DataW.trod enc Tryz.prog W 0 (fun _ => true) true n' 3 [c0] = some y := ⟨_, (hfl 0 _ rfl).trans (List.getElem?_eq_getElem (by rw [hyl]; decide))⟩
        have e1 : ∃ y, DataW.trod enc Tryz.prog W 0 (fun _ => true) true n' 9 [c1] = some y := ⟨_, (hfl 1 _ rfl).trans (List.getElem?_eq_getElem (by rw [hyl]; decide))⟩
        have e2 : ∃ y, DataW.trod enc Tryz.prog W 0 (fun _ => true) true n' 3 [c2] = some y := ⟨_, (hfl 2 _ rfl).trans (List.getElem?_eq_getElem (by rw [hyl]; decide))⟩
        have e3 : ∃ y, DataW.trod enc Tryz.prog W 0 (fun _ => true) true n' 9 [c3] = some y := ⟨_, (hfl 3 _ rfl).trans (List.getElem?_eq_getElem (by rw [hyl]; decide))⟩
        obtain ⟨_, e0⟩ := e0
        obtain ⟨_, e1⟩ := e1
        obtain ⟨_, e2⟩ := e2
        obtain ⟨_, e3⟩ := e3
        obtain ⟨x0, q0, _, w0⟩ := DataW.trod_int Tryz.underlying3 e0
        obtain ⟨x1, q1, _, w1⟩ := DataW.trod_string Tryz.underlying9 e1
        obtain ⟨x2, q2, _, w2⟩ := DataW.trod_int Tryz.underlying3 e2
        obtain ⟨x3, q3, _, w3⟩ := DataW.trod_string Tryz.underlying9 e3
        cases q0; cases q1; cases q2; cases q3
        refine ⟨⟨x0, x1, x2, x3⟩, ⟨w0, w1, w2, w3⟩, fun j v hj => ?_⟩
        have hj4 : j < 4 := by
          rcases Nat.lt_or_ge j 4 with h | h
          · exact h
          · rw [OpV.cells, List.getElem?_eq_none (by simpa using h)] at hj; cases hj
        have := hat j hj4
        rw [Go.Deep.add_add] at this
        rw [this]
        exact hj
    have hz' : ∃ z : Nat → OpV, (∀ i, (z i).fits) ∧ ∀ i, i < m → ∀ j v, (z i).cells[j]? = some v → W.cell? (a.add (i * 4 + j)) = some v := by
      refine ⟨fun i => if hi : i < m then (hO i hi).choose else ⟨0, ⟨#[]⟩, 0, ⟨#[]⟩⟩, fun i => ?_, fun i hi => ?_⟩
      · by_cases h : i < m
        · simp only [dif_pos h]; exact (hO i h).choose_spec.1
        · simp only [dif_neg h]; exact hz
      · simp only [dif_pos hi]; exact (hO i hi).choose_spec.2
    obtain ⟨z, hz1, hz2⟩ := hz'
    refine ⟨_, _, _, z, rfl, hl, hm, hz1, ?_⟩
    by_cases h0 : l0 = 0
    · exact .inl h0
    · right
      obtain ⟨b, off, spot⟩ := a
      have hspot : spot = none := by simpa [Addr.add] using World.cell?_spot (hz2 0 (by omega) 0 _ rfl)
      subst hspot
      have hc : ∀ i, i < m → ∀ j v, (z i).cells[j]? = some v → W.cell? ⟨b, off + i * 4 + j, none⟩ = some v := fun i hi j v hj => by
        have := hz2 i hi j v hj
        rw [Go.WideShapes.add_plain] at this
        rw [← this, Nat.add_assoc]
      exact ⟨b, off, rfl, World.block_lt_of_cell? W _ (hc 0 (by omega) 0 _ rfl), fun i hi => hc i (by omega)⟩

/-- rows of calls of the law's own -/
def OwnO (w : World) (base : Nat) (v : Value) (os : List OpV) : Prop := w.ownsRow base 31 4 v os.length (os.flatMap OpV.cells)
theorem infoOp : (Tryz.prog.info? 31).map (fun i => (i.zero, i.size, i.bytes)) = some (some (.agg #[.int .i64 0, .string ⟨#[]⟩, .int .i64 0, .string ⟨#[]⟩]), 4, 48) := by kernel_rfl
/-- its texts cut -/
def OpV.cut (o : OpV) : OpV := ⟨o.kind, o.filter.extract 0 (min (o.filter.size : Int) 150).toNat, o.id, o.topic.extract 0 (min (o.topic.size : Int) 150).toNat⟩

theorem Kept.grown' {a w w' : World} {row : Option Nat} (h : Kept a w) (hg : w.grownBy w' row) (hr : ∀ k, row = some k → a.heap.size ≤ k) : Kept a w' := Below.grown h hg h.size hr

set_option maxHeartbeats 2000000 in
set_option maxRecDepth 100000 in
theorem cut_any_ops (av : Option Addr) (len cap : Nat) (z : Nat → OpV) (w : World) (h : OpArg w av len cap z) :
    Calls Tryz.prog 4 #[.slice av len cap] w fun e w' => ∃ v, e = .returned v ∧ OwnO w' w.heap.size v ((List.range (min len 60)).map fun i => (z i).cut) ∧ Kept w w' := by
  obtain ⟨h1, h2, h3, h4⟩ := h
  obtain ⟨i0, hi, hz0, hz1, hz2⟩ := info_parts infoOp
  have Hi := Lib.hid hi
  have Hz0 := Lib.hid hz0
  have Hz1 := Lib.hid hz1
  have Hz2 := Lib.hid hz2
  clear hi hz0 hz1 hz2
  unfold maxLen at h2
  go_enter Tryz.func4, Tryz.ntmps4
  go_wp2
  go_loopw [3, 4] (fun ov iv wr => ∃ (k : Nat) (a6 : Option Addr) (c6 : Nat), k ≤ len ∧ k ≤ 60 ∧ iv = .int .i64 k ∧ ov = .slice a6 k c6 ∧ wr.ownsRow w.heap.size 31 4 (.slice a6 k c6) k (((List.range k).map fun i => (z i).cut).flatMap OpV.cells) ∧ Kept w wr) (fun _ iv _ => 60 - (intOf iv).toNat)
  case atStart =>
    refine ⟨0, _, 0, Nat.zero_le _, Nat.zero_le _, rfl, rfl, ?_, kept_alloc w _⟩
    exact World.ownsRow_made w #[] 0 (Nat.le_refl _) (Nat.zero_le _) rfl
  case round =>
    obtain ⟨k, a6, c6, hk1, hk2, rfl, rfl, hrow, hK⟩ := hrel
    by_cases hlt : k < len ∧ k < 60
    · obtain ⟨hlt1, hlt2⟩ := hlt
      rcases h4 with h4 | ⟨b, off, rfl, hb, hc⟩
      · omega
      · have ck := hc k hlt1
        obtain ⟨g0, g1, g2, g3⟩ := h3 k
        obtain ⟨K0, F0, I0, T0, hz⟩ : ∃ K0 F0 I0 T0, z k = ⟨K0, F0, I0, T0⟩ := ⟨_, _, _, _, rfl⟩
        have hcell : ∀ j v, [Value.int .i64 K0, .string F0, .int .i64 I0, .string T0][j]? = some v → wr.cell? ⟨b, off + k * 4 + j, none⟩ = some v := fun j v hj => by
          rw [Below.cell hK (p := ⟨b, off + k * 4 + j, none⟩) hb]
          exact ck j v (by rw [hz]; exact hj)
        have d0 := hcell 0 _ rfl
        have d1 := hcell 1 _ rfl
        have d2 := hcell 2 _ rfl
        have d3 := hcell 3 _ rfl
        rw [hz] at g0 g1 g2 g3
        have HZ := Lib.hid hz
        unfold maxLen at g1 g3
        simp only [Nat.add_zero] at d0
        clear hcell ck hc hz h3
        obtain ⟨FC, hFC⟩ : ∃ FC, F0.extract 0 (min (F0.size : Int) 150).toNat = FC := ⟨_, rfl⟩
        obtain ⟨TC, hTC⟩ : ∃ TC, T0.extract 0 (min (T0.size : Int) 150).toNat = TC := ⟨_, rfl⟩
        have HFC := Lib.hid hFC
        have HTC := Lib.hid hTC
        clear hFC hTC
        go_wp2_with (first
          | (at_builtin
             rw [HFC.out, HTC.out]
             refine wpList_append_own _ rfl _ _ 22 rfl w.heap.size 31 i0 (.agg #[.int .i64 0, .string ⟨#[]⟩, .int .i64 0, .string ⟨#[]⟩]) 4 48 Tryz.underlying22 Hi.out Hz0.out Hz1.out Hz2.out rfl (by decide) _ _ _ rfl ((hrow.alloc _).alloc _) ⟨wr.heap.size + 1, 0, none⟩ 1 1 [.int .i64 K0, .string FC, .int .i64 I0, .string TC] rfl rfl
               (World.news_of_block (cs := #[.int .i64 K0, .string FC, .int .i64 I0, .string TC]) (t := 31) (fr := (0, 0)) (by have := new_heap (wr.alloc (.cells #[.int .i64 K0, .string FC, .int .i64 I0, .string TC] 31)) (.cells #[.int .i64 K0, .string FC, .int .i64 I0, .string TC] 31); rw [World.size_alloc] at this; exact this))
               (by intro u hu; simp at hu; rcases hu with rfl | rfl | rfl | rfl <;> rfl) (by unfold maxLen; omega) (by omega) (by have := hK.size; simp; omega) ?_; intro v3 w3 ho3 hg3 _
             obtain ⟨g3, c3, rfl⟩ := ownsRow_succ ho3
             have kk3 : Kept w w3 := (Kept.alloc (Kept.alloc hK _) _).grown' hg3 (fun j hj => (hrow.lt j hj).1)
             have Ho3 := Lib.hid ho3
             have HK3 := Lib.hid kk3
             clear ho3 hg3 kk3
             go_frame)
          | go_in)
        go_roundw
        case rel =>
          refine ⟨k + 1, _, c3, by omega, by omega, by go_num, rfl, ?_, HK3.out⟩
          have e1 : ((List.range (k + 1)).map fun i => (z i).cut).flatMap OpV.cells = ((List.range k).map fun i => (z i).cut).flatMap OpV.cells ++ [.int .i64 K0, .string FC, .int .i64 I0, .string TC] := by
            rw [List.range_succ, List.map_append, List.flatMap_append, List.map_singleton, HZ.out]
            simp [OpV.cut, OpV.cells, HFC.out, HTC.out]
          rw [e1]
          exact Ho3.out
        case measure => simp [intOf]; omega
    · have hmin : min len 60 = k := by omega
      have Hrow := Lib.hid hrow
      have Hmin := Lib.hid hmin
      clear hrow hmin
      by_cases hl60 : k < len
      · have hk60 : ¬ k < 60 := fun h => hlt ⟨hl60, h⟩
        go_wp2
        go_ret
        refine ⟨_, rfl, ?_, hK⟩
        rw [Hmin.out]
        unfold OwnO
        rw [List.length_map, List.length_range]
        exact Hrow.out
      · go_wp2
        go_ret
        refine ⟨_, rfl, ?_, hK⟩
        rw [Hmin.out]
        unfold OwnO
        rw [List.length_map, List.length_range]
        exact Hrow.out
end Go.Proofs.YtalebnhkidhglaaGreat
