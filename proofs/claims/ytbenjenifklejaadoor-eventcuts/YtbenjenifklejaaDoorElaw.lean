/-
  What the laws of layer 6 share: events and marks that come in, and their cut.
-/
import Derived.Test.YtbenjenifklejaaDoorEcutw
import Derived.Test.YtbenjenifklejaaDoorEage
import Derived.Test.YtbenjenifklejaaDoorEshow
import Derived.Carry
import Derived.Deep.Slices
import Derived.Deep.Fields
import Derived.ChangeSame
namespace Go.Proofs.YtbenjenifklejaaDoor
open Go.ChangeShapes Go.WideShapes Go.ChangeAt Go.RowKit

theorem laidOut : laidOutB Tryd.prog = true := by kernel_rfl

/-- its texts cut -/
def cutE (e : Ev.E) : Ev.E := ⟨e.o, e.s, e.t.extract 0 (min (e.t.size : Int) 200).toNat, e.l.extract 0 (min (e.l.size : Int) 200).toNat, e.d⟩
/-- an event as it comes in -/
structure Came (e : Ev.E) : Prop where
  o0 : -9223372036854775808 ≤ e.o
  o1 : e.o ≤ 9223372036854775807
  s0 : -9223372036854775808 ≤ e.s
  s1 : e.s ≤ 9223372036854775807
  t : e.t.size ≤ 9223372036854775807
  l : e.l.size ≤ 9223372036854775807
  d0 : -9223372036854775808 ≤ e.d
  d1 : e.d ≤ 9223372036854775807
theorem cutE_fit {e : Ev.E} (h : Came e) : Fit (cutE e) ∧ (cutE e).t.size ≤ 200 ∧ (cutE e).l.size ≤ 200 := by
  have ht := cut_size e.t 200
  have hl := cut_size e.l 200
  exact ⟨⟨h.o0, h.o1, h.s0, h.s1, Nat.le_trans ht (by decide), Nat.le_trans hl (by decide), h.d0, h.d1⟩, ht, hl⟩

theorem ret_cut (R : Nat) (tmps : Array Value) (W : World) (E : Ev.E) (h4 : tmps[2]?.getD undef = .pointer (some ⟨R, 0, none⟩)) (hb : Blk W R (evc E) 23) :
    (results Tryd.f10 tmps).run Tryd.prog W = .ok (evv E) W := by
  unfold evc at hb
  have c0 := hb.cell 0
  have c1 := hb.cell 1
  have c2 := hb.cell 2
  have c3 := hb.cell 3
  have c4 := hb.cell 4
  simp only [List.getElem?_toArray, List.getElem?_cons_zero, List.getElem?_cons_succ] at c0 c1 c2 c3 c4
  simp [results, Tryd.f10, go_sem, h4, c0, c1, c2, c3, c4, evv]
theorem made2e (w : World) (o : Obj) (E : Ev.E) : Blk ((w.alloc o).alloc (.cells (evc E) 23)) (w.heap.size + 1) (evc E) 23 := by
  have := Blk.made (w.alloc o) (evc E) 23
  rwa [World.size_alloc] at this

set_option maxHeartbeats 1000000 in
theorem cut_ev (e : Ev.E) (w : World) (h : Came e) : Calls Tryd.prog 10 #[evv e] w fun r w' => r = .returned (evv (cutE e)) ∧ Kept w w' := by
  obtain ⟨o0, o1, s0, s1, ht, hl, d0, d1⟩ := h
  unfold evv
  go_enter Tryd.func10, Tryd.ntmps10
  go_wp2
  exact bodyPost_ret (ret_cut (w.heap.size + 1) _ _ (cutE e) rfl (made2e w _ (cutE e))) rfl ⟨rfl, Kept.alloc (Kept.alloc (Kept.refl w) _) _⟩

/-! ### arguments -/
theorem int_bounds {x : Int} (h : (Lit.int .i64 x).wf = true) : -9223372036854775808 ≤ x ∧ x ≤ 9223372036854775807 := bounds_i64 h

section
variable {H : Type} {enc : TypeId × Value → H} {W : World} {base : Nat}

set_option maxRecDepth 100000 in
theorem open_event {v : Value} {d : DataW H} {ps : List MemPlace} (hv : Value.okWide Tryd.prog W .any base 23 v)
    (h : DataW.Trod enc Tryd.prog W 0 (fun _ => true) true 23 v d ps) : ∃ e : Ev.E, v = evv e ∧ Came e := by
  obtain ⟨cs, rfl, hsz⟩ := okWide_struct Tryd.underlying23 hv
  have hC : Tryd.prog.cellsOf 23 = 5 := by kernel_rfl
  obtain ⟨l⟩ := cs
  obtain ⟨fuel, hf⟩ := h
  match l, hsz.trans hC with
  | [c0, c1, c2, c3, c4], _ =>
    obtain ⟨ys, n', _, _, _, hyl, hfl⟩ := DataW.trod_struct Tryd.underlying23 hf
    have e0 : ∃ y, DataW.trod enc Tryd.prog W 0 (fun _ => true) true n' 3 [c0] = some y := ⟨_, (hfl 0 _ rfl).trans (List.getElem?_eq_getElem (by rw [hyl]; decide))⟩
    have e1 : ∃ y, DataW.trod enc Tryd.prog W 0 (fun _ => true) true n' 3 [c1] = some y := ⟨_, (hfl 1 _ rfl).trans (List.getElem?_eq_getElem (by rw [hyl]; decide))⟩
    have e2 : ∃ y, DataW.trod enc Tryd.prog W 0 (fun _ => true) true n' 9 [c2] = some y := ⟨_, (hfl 2 _ rfl).trans (List.getElem?_eq_getElem (by rw [hyl]; decide))⟩
    have e3 : ∃ y, DataW.trod enc Tryd.prog W 0 (fun _ => true) true n' 9 [c3] = some y := ⟨_, (hfl 3 _ rfl).trans (List.getElem?_eq_getElem (by rw [hyl]; decide))⟩
    have e4 : ∃ y, DataW.trod enc Tryd.prog W 0 (fun _ => true) true n' 3 [c4] = some y := ⟨_, (hfl 4 _ rfl).trans (List.getElem?_eq_getElem (by rw [hyl]; decide))⟩
    obtain ⟨_, e0⟩ := e0
    obtain ⟨_, e1⟩ := e1
    obtain ⟨_, e2⟩ := e2
    obtain ⟨_, e3⟩ := e3
    obtain ⟨_, e4⟩ := e4
    obtain ⟨x0, q0, _, w0⟩ := DataW.trod_int Tryd.underlying3 e0
    obtain ⟨x1, q1, _, w1⟩ := DataW.trod_int Tryd.underlying3 e1
    obtain ⟨x2, q2, _, w2⟩ := DataW.trod_string Tryd.underlying9 e2
    obtain ⟨x3, q3, _, w3⟩ := DataW.trod_string Tryd.underlying9 e3
    obtain ⟨x4, q4, _, w4⟩ := DataW.trod_int Tryd.underlying3 e4
    cases q0; cases q1; cases q2; cases q3; cases q4
    have b0 := int_bounds w0
    have b1 := int_bounds w1
    have b4 := int_bounds w4
    unfold maxLen at w2 w3
    exact ⟨⟨x0, x1, x2, x3, x4⟩, rfl, ⟨b0.1, b0.2, b1.1, b1.2, w2, w3, b4.1, b4.2⟩⟩

set_option maxRecDepth 100000 in
theorem open_marks {v : Value} {d : DataW H} {ps : List MemPlace} (hv : Value.okWide Tryd.prog W .any base 34 v)
    (h : DataW.Trod enc Tryd.prog W 0 (fun _ => true) true 34 v d ps) : ∃ av cap ms, v = .slice av ms.length cap ∧ MkS W av cap ms := by
  obtain ⟨a0, l0, c0, rfl⟩ := okWide_slice Tryd.underlying34 hv
  obtain ⟨fuel, hf⟩ := h
  have hC : Tryd.prog.cellsOf 59 = 2 := by kernel_rfl
  rcases Deep.open_slice Tryd.underlying34 hf with ⟨hcs, hx⟩ | ⟨a, len, cap, m, n, D, Pl, hcs, _, hl, hm, hmm, _, hi⟩
  · simp only [Value.cells, List.cons.injEq, Value.slice.injEq, and_true] at hcs
    obtain ⟨rfl, rfl, rfl⟩ := hcs
    exact ⟨none, 0, [], rfl, MkS.nil W⟩
  · simp only [Value.cells, List.cons.injEq, Value.slice.injEq, and_true] at hcs
    obtain ⟨rfl, rfl, rfl⟩ := hcs
    have hlm : l0 ≤ m := by rw [hmm]; split <;> omega
    have hO : ∀ i, i < m → ∃ o : Ev.M, mfit o ∧ W.cell? (a.add (i * 2 + 0)) = some (.int .i64 o.o) ∧ W.cell? (a.add (i * 2 + 1)) = some (.int .i64 o.s) := by
      intro i him
      obtain ⟨cs, hc, ht⟩ := hi i him
      rw [hC] at hc
      obtain ⟨_, hcl, hat⟩ := World.cells?_some hc
      obtain ⟨ys, n', _, _, _, hyl, hfl⟩ := DataW.trod_struct Tryd.underlying59 ht
      match cs, hcl with
      | [c0, c1], _ =>
        have e0 : ∃ y, DataW.trod enc Tryd.prog W 0 (fun _ => true) true n' 3 [c0] = some y := ⟨_, (hfl 0 _ rfl).trans (List.getElem?_eq_getElem (by rw [hyl]; decide))⟩
        have e1 : ∃ y, DataW.trod enc Tryd.prog W 0 (fun _ => true) true n' 3 [c1] = some y := ⟨_, (hfl 1 _ rfl).trans (List.getElem?_eq_getElem (by rw [hyl]; decide))⟩
        obtain ⟨_, e0⟩ := e0
        obtain ⟨_, e1⟩ := e1
        obtain ⟨x0, q0, _, w0⟩ := DataW.trod_int Tryd.underlying3 e0
        obtain ⟨x1, q1, _, w1⟩ := DataW.trod_int Tryd.underlying3 e1
        cases q0; cases q1
        have h0 := hat 0 (by omega)
        have h1 := hat 1 (by omega)
        rw [Go.Deep.add_add] at h0 h1
        exact ⟨⟨x0, x1⟩, ⟨int_bounds w0, int_bounds w1⟩, h0, h1⟩
    have hz' : ∃ z : Nat → Ev.M, ∀ i, i < m → mfit (z i) ∧ W.cell? (a.add (i * 2 + 0)) = some (.int .i64 (z i).o) ∧ W.cell? (a.add (i * 2 + 1)) = some (.int .i64 (z i).s) := by
      refine ⟨fun i => if hi : i < m then (hO i hi).choose else ⟨0, 0⟩, fun i hi => ?_⟩
      simp only [dif_pos hi]
      exact (hO i hi).choose_spec
    obtain ⟨z, hz⟩ := hz'
    have hlen : ((List.range l0).map z).length = l0 := by simp
    refine ⟨_, c0, (List.range l0).map z, by rw [hlen], by rw [hlen]; exact hl, by unfold maxLen at hm; exact hm, fun x hx => ?_, ?_⟩
    · simp only [List.mem_map, List.mem_range] at hx
      obtain ⟨i, hi, rfl⟩ := hx
      exact (hz i (by omega)).1
    · by_cases h0 : l0 = 0
      · left; subst h0; rfl
      · right
        obtain ⟨b, off, spot⟩ := a
        have hspot : spot = none := by simpa [Addr.add] using World.cell?_spot (hz 0 (by omega)).2.1
        subst hspot
        have hc : ∀ i, i < m → W.cell? ⟨b, off + i * 2, none⟩ = some (.int .i64 (z i).o) ∧ W.cell? ⟨b, off + i * 2 + 1, none⟩ = some (.int .i64 (z i).s) := fun i hi => by
          have h1 := (hz i hi).2
          rw [Go.WideShapes.add_plain, Go.WideShapes.add_plain] at h1
          refine ⟨?_, ?_⟩
          · rw [← h1.1, Nat.add_zero]
          · rw [← h1.2, Nat.add_assoc]
        refine ⟨b, off, rfl, World.block_lt_of_cell? W _ (hc 0 (by omega)).1, fun i x hx => ?_⟩
        rw [List.getElem?_map, Option.map_eq_some_iff] at hx
        obtain ⟨j, hj, rfl⟩ := hx
        have hji : j = i ∧ i < l0 := by
          rw [List.getElem?_eq_some_iff] at hj
          obtain ⟨h1, h2⟩ := hj
          simp at h1 h2
          exact ⟨h2.symm, h1⟩
        obtain ⟨rfl, hil⟩ := hji
        exact hc j (by omega)
end
end Go.Proofs.YtbenjenifklejaaDoor
