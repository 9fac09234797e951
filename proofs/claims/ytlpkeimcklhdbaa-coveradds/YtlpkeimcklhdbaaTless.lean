/-
  Being ahead: the walk of Less.
-/
import Derived.Test.YtlpkeimcklhdbaaTcovers
namespace Go.Proofs.Ytlpkeimcklhdbaa
open Go.ChangeShapes Go.WideShapes Go.ChangeAt Go.RowKit Go.Shelf

attribute [local go_sem] Oper.semAt_some

set_option maxRecDepth 100000 in
set_option maxHeartbeats 4000000 in
theorem less_in (n : Nat) (hn : 4 ≤ n) (s t : ByteArray) (hs : s.size ≤ 281474976710656) (ht : t.size ≤ 281474976710656) (w : World) :
    CallsIn Fence.wide n Try.prog 57 #[.string s, .string t] w fun e w' => e = .returned (.bool (Tp.less s.data.toList t.data.toList)) ∧ Kept w w' := by
  have h1 : 1 ≤ n := by omega
  refine callsIn_of_wp_marks Try.func57 rfl trivial ?_ rfl
  simp only [Try.ntmps57, List.size_toArray, List.length_cons, List.length_nil, Nat.reduceAdd, Nat.reduceSub, Array.replicate_succ, Array.replicate_zero, List.push_toArray, List.append_toArray, List.nil_append, List.cons_append]
  have b0 := Boxed.new w 4 (.bool false)
  have Hd3 : Hid (Tp.less s.data.toList t.data.toList = Tp.run Tp.lesstep false (Tp.prs (Tp.lev s.data.toList) (Tp.lev t.data.toList))) := by
    show _ = _
    rw [Tp.les_prs]; rfl
  have hBl : Below w.heap.size w (w.alloc (.cells #[.bool false] 4)) := (Below.refl _ w).alloc (Nat.le_refl _) _
  gi_wp2_with fail
  refine ⟨trivial, ?_⟩
  refine (pairs_in (n - 1) s _ _).mono ?_
  rintro e w' ⟨rfl, rfl⟩
  gi_wp2_with fail
  have c1 := Boxed.new (w.alloc (.cells #[.bool false] 4)) 9 (.string s)
  have c2 := Boxed.new ((w.alloc (.cells #[.bool false] 4)).alloc (.cells #[.string s] 9)) 9 (.string t)
  rw [World.size_alloc] at c1 c2
  rw [World.size_alloc] at c2
  have c1' := (c1.alloc (.cells #[.string t] 9)).cell
  have c2' := c2.cell
  have hB0 : Below w.heap.size w (((w.alloc (.cells #[.bool false] 4)).alloc (.cells #[.string s] 9)).alloc (.cells #[.string t] 9)) := ((hBl).alloc (hBl).size _).alloc (by have := (hBl).size; simp at this ⊢; omega) _
  have hw0 := (hBl).size
  have hbl := b0.lt
  refine wpIn_rangeFunc_ownH rfl h1 (gf := 58) (lb := #[.pointer (some ⟨w.heap.size + 1, 0, none⟩), .pointer (some ⟨w.heap.size + 1 + 1, 0, none⟩)]) rfl trivial (enters_of Try.func58 (by kernel_rfl) rfl)
    (pairs_stops (n - 1) (by omega) (w.heap.size + 1) (w.heap.size + 1 + 1) s t hs ht _ (by simp <;> omega) c1' (by simp) c2') (fun _ _ => trivial) (fun _ _ _ _ _ _ _ _ => trivial) (Below.refl _ _) (fun _ => rfl)
    (fun pre W => ((∀ y ∈ dats pre, Tp.lesstep y = none) ∧ Boxed W w.heap.size 4 (.bool false)) ∧ Below w.heap.size w W)
    (fun c pre W => (c = .ret ∧ ∃ v, Tp.Stopped Tp.lesstep (dats pre) v ∧ Boxed W w.heap.size 4 (.bool v)) ∧ Below w.heap.size w W)
    (OwnFrom.and (OwnFrom.and (ownFrom_pure _ _) (Own.from (boxed_own _ _ _) _)) (ownFrom_below (Nat.le_refl _) (by simp; omega)))
    (fun c => OwnFrom.and (fun s W W' row ⟨e, v, h2, h3⟩ hg hr => ⟨e, v, h2, Own.from (boxed_own _ _ fun _ => _) _ s W W' row h3 hg hr⟩) (ownFrom_below (Nat.le_refl _) (by simp; omega)))
    ⟨⟨fun y hy => (by simp [dats] at hy), (b0.alloc _).alloc _⟩, hB0⟩
    (fun x a' W => ∃ Bx, w.heap.size < Bx ∧ Box4 W Bx x ∧ a' = { tmps := #[.string s, .string t, undef, undef, .pointer (some ⟨w.heap.size, 0, none⟩), .pointer (some ⟨Bx, 0, none⟩), .string s, .string t, .func (.func 58) #[] #[.pointer (some ⟨w.heap.size + 1, 0, none⟩), .pointer (some ⟨w.heap.size + 1 + 1, 0, none⟩)], .agg #[.string x.a, .string x.b, .bool x.ha, .bool x.hb], undef, undef, undef, undef, undef, undef, undef, undef, undef, undef, undef, undef, undef, undef, undef, undef, undef, undef, undef, undef], defers := [] })
    (fun x a' s W W' row ⟨Bx, h1, h2, h3⟩ hg hr => ⟨Bx, h1, Own.from (box4_own Bx x) _ s W W' row h2 hg hr, h3⟩) ?assign ?body ?done ?stop
  case assign =>
    rintro l pre x W K ⟨⟨hi, hb⟩, hB⟩ hK
    gi_wp2
    exact hK _ _ ((KeepsOthers.alloc _ _).from _) trivial ⟨⟨hi, hb.alloc _⟩, hB.alloc hB.size _⟩ ⟨W.heap.size, hb.lt, box4_new W x, rfl⟩
  case body =>
    rintro l pre x a' W hl hr ⟨⟨hi, hb⟩, hB⟩ ⟨Bx, hBx, hx4, rfl⟩ _
    clear hl hr
    have hd : 1 ≤ n - 1 - 1 := by omega
    have Hi := Lib.hid hi
    have Hts := Lib.hid (dats_snoc pre x)
    have xa := box4_a hx4
    have xb := box4_b hx4
    have xha := box4_ha hx4
    have xhb := box4_hb hx4
    have hbc := hb.cell
    have hbf := hb.frozen
    clear hi
    obtain ⟨xa1, xb1, ha, hb1⟩ := x
    simp only at xa xb xha xhb
    cases ha with
    | false =>
      have Hst := Lib.hid (Tp.lesstep_end (x := (PV.mk xa1 xb1 false hb1).dat) (.inl rfl))
      gi_wp2_with fail
      exact ⟨(KeepsOthers.setCell _ _ _).from _, ⟨rfl, _, ⟨_, _, Hts.out, Hi.out, Hst.out⟩, hb.set _⟩, hB.setCell (p := ⟨w.heap.size, 0, none⟩) (Nat.le_refl _) _⟩
    | true =>
      cases hb1 with
      | false =>
        have Hst := Lib.hid (Tp.lesstep_end (x := (PV.mk xa1 xb1 true false).dat) (.inr rfl))
        gi_wp2_with fail
        exact ⟨(KeepsOthers.setCell _ _ _).from _, ⟨rfl, _, ⟨_, _, Hts.out, Hi.out, Hst.out⟩, hb.set _⟩, hB.setCell (p := ⟨w.heap.size, 0, none⟩) (Nat.le_refl _) _⟩
      | true =>
        have hno : ¬ ((PV.mk xa1 xb1 true true).dat.2.2.1 = false ∨ (PV.mk xa1 xb1 true true).dat.2.2.2 = false) := by rintro (h | h) <;> cases h
        by_cases hh : xa1.data.toList = xb1.data.toList
        · have Hst := Lib.hid (Tp.lesstep_eq (x := (PV.mk xa1 xb1 true true).dat) hno hh)
          have eh : (xa1.toList == xb1.toList) = true := by rw [toList_eq, toList_eq, hh]; simp
          have eh2 : (xa1.toList != xb1.toList) = false := by simp [bne, eh]
          clear hh hno
          gi_wp2_with fail
          exact ⟨KeepsFrom.refl _ _, trivial, ⟨by rw [Hts.out]; exact Tp.none_snoc Hi.out Hst.out, hb⟩, hB⟩
        · have Hst := Lib.hid (Tp.lesstep_ne (x := (PV.mk xa1 xb1 true true).dat) hno hh)
          have eh : (xa1.toList == xb1.toList) = false := by rw [beq_eq_false_iff_ne, toList_eq, toList_eq]; exact hh
          have eh2 : (xa1.toList != xb1.toList) = true := by simp [bne, eh]
          have Hl := Lib.hid (show Op.bytesLess xa1.toList xb1.toList = Op.bytesLess (PV.mk xa1 xb1 true true).dat.1 (PV.mk xa1 xb1 true true).dat.2.1 by rw [toList_eq, toList_eq]; rfl)
          clear hh hno
          gi_wp2_with fail
          exact ⟨(KeepsOthers.setCell _ _ _).from _, ⟨rfl, _, ⟨_, _, Hts.out, Hi.out, Hst.out⟩, by rw [← Hl.out]; exact hb.set _⟩, hB.setCell (p := ⟨w.heap.size, 0, none⟩) (Nat.le_refl _) _⟩
  case done =>
    rintro D ys W hD hys ⟨⟨hi, hb⟩, hB⟩ hK
    have hbc := hb.cell
    have hbf := hb.frozen
    have Hr := Lib.hid (show Tp.run Tp.lesstep false (Tp.prs (Tp.lev s.data.toList) (Tp.lev (t : ByteArray).data.toList)) = false by rw [← hys]; exact Tp.run_end _ hi)
    clear hys hi
    gi_wp2_with fail
    have hK' := (KeepsOthers.setCell W ⟨w.heap.size, 0, none⟩ (.bool false)).same D _ hK rfl
    refine ⟨by simp, .inl ⟨_, _, rfl, run_takeDeferred hK', ?_⟩⟩
    have hc5 := cell_kept (World.cell?_setCell_same' W ⟨w.heap.size, 0, none⟩ (.bool false) (by rw [hbc]; rfl)) (grownBy_putObj' _ D (.deferred none)) (fun r e => by cases e; exact ⟨_, hK', rfl⟩)
    refine ⟨.bool false, ?_, ?_, (hB.setCell (p := ⟨w.heap.size, 0, none⟩) (by simp) _).trans (belowK_b (w := w) (Nat.le_refl _) _ D _ _ (by simp at hD; omega) hK' rfl rfl)⟩
    · simp [results, Try.f57, go_sem, hc5]
    · rw [Hd3.out, Hr.out]
  case stop =>
    rintro D c pre W hD hpre ⟨⟨rfl, v, hin, hb⟩, hB⟩ hK
    have Hr := Lib.hid (Tp.run_stop (dflt := false) hpre hin)
    clear hin hpre
    gi_wp2
    refine ⟨by simp, .inl ⟨_, _, rfl, run_takeDeferred hK, ?_⟩⟩
    have hc5 := cell_kept hb.cell (grownBy_putObj' _ D (.deferred none)) (fun r e => by cases e; exact ⟨_, hK, rfl⟩)
    refine ⟨.bool v, ?_, ?_, hB.trans (belowK_b (w := w) (Nat.le_refl _) W D _ _ (by simp at hD; omega) hK rfl rfl)⟩
    · simp [results, Try.f57, go_sem, hc5]
    · rw [Hd3.out, Hr.out]

theorem less_any (s t : ByteArray) (w : World) (hs : s.size ≤ 281474976710656) (ht : t.size ≤ 281474976710656) :
    Calls Try.prog 57 #[.string s, .string t] w fun e w' => e = .returned (.bool (Tp.less s.data.toList t.data.toList)) ∧ Kept w w' :=
  callsIn_wide.1 (less_in 4 (Nat.le_refl _) s t hs ht w)
end Go.Proofs.Ytlpkeimcklhdbaa
