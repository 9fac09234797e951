/-
  Whether a text is a topic: the walk of Right.
-/
import Derived.Test.YtlfmpoinjbmjoaaGreatDoorTlev
namespace Go.Proofs.YtlfmpoinjbmjoaaGreatDoor
open Go.ChangeShapes Go.WideShapes Go.ChangeAt Go.RowKit Go.Shelf

attribute [local go_sem] Oper.semAt_some

theorem others_kept {w w' : World} (h : Kept w w') : KeepsOthers w w' :=
  ⟨h.size, fun k _ hk _ => (h.block k (Array.getElem?_eq_some_iff.1 hk).1).trans hk⟩
theorem box_keeps {w w' : World} {B : Nat} {t : TypeId} {v : Value} (h : Boxed w B t v) (k : Kept w w') : Boxed w' B t v := (k.block B h.lt).trans h

theorem right_stop {s : List UInt8} {pre : List (List UInt8)} (h : pre <+: Tp.lev s) (hb : 8 < pre.length ∨ Tp.names pre = false) : Tp.right s = false := by
  obtain ⟨t, ht⟩ := h
  rw [Tp.right, ← ht, List.length_append]
  rcases hb with hb | hb
  · rw [decide_eq_false (by omega)]; rfl
  · rw [Tp.names, List.all_append]
    have : pre.all Tp.name = false := hb
    rw [this]; simp

set_option maxRecDepth 100000 in
set_option maxHeartbeats 1000000 in
theorem right_in (n : Nat) (hn : 4 ≤ n) (s : ByteArray) (hs : s.size ≤ 281474976710656) (w : World) :
    CallsIn Fence.wide n Tryz.prog 147 #[.string s] w fun e w' => e = .returned (.bool (Tp.right s.data.toList)) ∧ Kept w w' := by
  have h1 : 1 ≤ n := by omega
  refine callsIn_of_wp_marks Tryz.func147 rfl trivial ?_ rfl
  simp only [Tryz.ntmps147, List.size_toArray, List.length_cons, List.length_nil, Nat.reduceAdd, Nat.reduceSub, Array.replicate_succ, Array.replicate_zero, List.push_toArray, List.append_toArray, List.nil_append, List.cons_append]
  gi_wp2_with fail
  refine ⟨trivial, ?_⟩
  refine (levels_in (n - 1) s _).mono ?_
  rintro e w' ⟨rfl, rfl⟩
  gi_wp2_with fail
  have b0 := Boxed.new w 4 (.bool false)
  have b1 := Boxed.new (w.alloc (.cells #[.bool false] 4)) 3 (.int .i64 0)
  have b2 := Boxed.new ((w.alloc (.cells #[.bool false] 4)).alloc (.cells #[.int .i64 0] 3)) 9 (.string s)
  simp only [World.size_alloc] at b1 b2
  have hB0 : Below w.heap.size w (((w.alloc (.cells #[.bool false] 4)).alloc (.cells #[.int .i64 0] 3)).alloc (.cells #[.string s] 9)) := (((Below.refl _ w).alloc (Nat.le_refl _) _).alloc (by simp) _).alloc (by simp; omega) _
  refine wpIn_rangeFunc_ownG rfl h1 (gf := 151) (lb := #[.pointer (some ⟨w.heap.size + 1 + 1, 0, none⟩)]) rfl trivial (enters_of Tryz.func151 (by kernel_rfl) rfl)
    (levels_stops (n - 1) (by omega) (w.heap.size + 1 + 1) s hs _ (by simp) b2.cell) (fun _ _ => trivial) (fun _ _ _ _ _ _ _ _ => trivial) (Below.refl _ _) (fun _ => rfl)
    (fun pre W => (pre.length ≤ 8 ∧ Tp.names (txts pre) = true ∧ Boxed W w.heap.size 4 (.bool false) ∧ Boxed W (w.heap.size + 1) 3 (.int .i64 pre.length)) ∧ Below w.heap.size w W)
    (fun c pre W => (c = .ret ∧ (8 < (txts pre).length ∨ Tp.names (txts pre) = false) ∧ Boxed W w.heap.size 4 (.bool false)) ∧ Below w.heap.size w W)
    (OwnFrom.and (OwnFrom.and (ownFrom_pure _ _) (OwnFrom.and (ownFrom_pure _ _) (OwnFrom.and (Own.from (boxed_own _ _ _) _) (Own.from (boxed_own _ _ _) _)))) (ownFrom_below (Nat.le_refl _) (by simp; omega)))
    (fun c => OwnFrom.and (OwnFrom.and (ownFrom_pure _ _) (OwnFrom.and (ownFrom_pure _ _) (Own.from (boxed_own _ _ _) _))) (ownFrom_below (Nat.le_refl _) (by simp; omega)))
    ⟨⟨Nat.zero_le _, rfl, (b0.alloc _).alloc _, b1.alloc _⟩, hB0⟩
    (fun x => { tmps := #[.string s, undef, .pointer (some ⟨w.heap.size, 0, none⟩), .pointer (some ⟨w.heap.size + 1, 0, none⟩), .string x.1, .string s, .func (.func 151) #[] #[.pointer (some ⟨w.heap.size + 1 + 1, 0, none⟩)], .string x.1, undef, undef, undef, undef, undef, undef, undef, undef, undef], defers := [] }) ?assign ?body ?done ?stop
  case assign =>
    intro l x W K hK
    gi_wp2
    exact hK
  case body =>
    rintro l pre x W ⟨⟨hl, hnm, c0, c1⟩, hB⟩ _
    have c1' := c1.cell
    have c0' := c0.cell
    have f0' := c0.frozen
    have f1' := c1.frozen
    have hd : 1 ≤ n - 1 - 1 := by omega
    have tl : (txts (pre ++ [x])).length = pre.length + 1 := by simp [txts]
    have tn : Tp.names (txts (pre ++ [x])) = Tp.name x.1.data.toList := by rw [txts_snoc, Tp.names, List.all_append, show (txts pre).all Tp.name = true from hnm]; simp
    have Hnm := Lib.hid hnm
    have Htl := Lib.hid tl
    have Htn := Lib.hid tn
    clear hnm tl tn
    by_cases h8 : pre.length = 8
    · have e8 : ((pre.length : Int) == 8) = true := by rw [h8]; rfl
      gi_wp2_with fail
      refine ⟨trivial, ?_⟩
      gi_wp2_with fail
      exact ⟨(KeepsOthers.setCell _ _ _).from _, ⟨rfl, .inl (by rw [Htl.out]; omega), c0.set _⟩, hB.setCell (p := ⟨w.heap.size, 0, none⟩) (Nat.le_refl _) _⟩
    · have e8 : ((pre.length : Int) == 8) = false := by rw [beq_eq_false_iff_ne]; omega
      gi_wp2_with fail
      refine ⟨trivial, ?_⟩
      refine (CallsIn.inRound l (callsIn_wide.2 (isName_any x.1 _))).mono ?_
      rintro e w' ⟨rfl, k⟩
      have d0 := box_keeps c0 k
      have d1 := box_keeps c1 k
      have d1' := d1.cell
      have g1' := d1.frozen
      have g0' := d0.frozen
      have d0' := d0.cell
      have hB' : Below w.heap.size w w' := hB.trans (Below.mono k hB.size)
      cases hb : Tp.name x.1.data.toList with
      | false =>
        rw [hb] at Htn
        clear hb
        gi_wp2_with fail
        exact ⟨((others_kept k).trans (KeepsOthers.setCell _ _ _)).from _, ⟨rfl, .inr Htn.out, d0.set _⟩, hB'.setCell (p := ⟨w.heap.size, 0, none⟩) (Nat.le_refl _) _⟩
      | true =>
        rw [hb] at Htn
        clear hb
        gi_wp2_with fail
        refine ⟨((others_kept k).trans (KeepsOthers.setCell _ _ _)).from _, trivial, ⟨?_, Htn.out, ?_, ?_⟩, hB'.setCell (p := ⟨w.heap.size + 1, 0, none⟩) (by simp) _⟩
        · rw [List.length_append, List.length_singleton]; omega
        · exact d0.other (by simp) _
        · rw [List.length_append, List.length_singleton]
          exact d1.set _
  case done =>
    rintro D ys W hD hys ⟨⟨hl, hnm, c0, c1⟩, hB⟩ hK
    have c0' := c0.cell
    have f0' := c0.frozen
    have Hr : Hid (Tp.right s.data.toList = true) := by
      show _ = _
      have : ys.length = (Tp.lev s.data.toList).length := by rw [← hys]; simp [txts]
      rw [Tp.right, ← hys, hnm, decide_eq_true (by simp [txts]; omega)]; rfl
    clear hys hnm
    gi_wp2_with fail
    have hK' := (KeepsOthers.setCell W ⟨w.heap.size, 0, none⟩ (.bool true)).same D _ hK rfl
    refine ⟨by simp, .inl ⟨_, _, rfl, run_takeDeferred hK', ?_⟩⟩
    have hc5 := cell_kept (World.cell?_setCell_same' W ⟨w.heap.size, 0, none⟩ (.bool true) (by rw [c0']; rfl)) (grownBy_putObj' _ D (.deferred none)) (fun r e => by cases e; exact ⟨_, hK', rfl⟩)
    refine ⟨.bool true, ?_, by rw [Hr.out], (hB.setCell (p := ⟨w.heap.size, 0, none⟩) (by simp) _).trans (belowK_b (w := w) (Nat.le_refl _) _ D _ _ (by simp at hD; omega) hK' rfl rfl)⟩
    simp [results, Tryz.f147, go_sem, hc5]
  case stop =>
    rintro D c pre W hD hpre ⟨⟨rfl, hin, c0⟩, hB⟩ hK
    have Hr := Lib.hid (right_stop hpre hin)
    gi_wp2
    refine ⟨by simp, .inl ⟨_, _, rfl, run_takeDeferred hK, ?_⟩⟩
    have hc5 := cell_kept c0.cell (grownBy_putObj' _ D (.deferred none)) (fun r e => by cases e; exact ⟨_, hK, rfl⟩)
    refine ⟨.bool false, ?_, by rw [Hr.out], hB.trans (belowK_b (w := w) (Nat.le_refl _) W D _ _ (by simp at hD; omega) hK rfl rfl)⟩
    simp [results, Tryz.f147, go_sem, hc5]

theorem right_any (s : ByteArray) (w : World) (hs : s.size ≤ 281474976710656) :
    Calls Tryz.prog 147 #[.string s] w fun e w' => e = .returned (.bool (Tp.right s.data.toList)) ∧ Kept w w' :=
  callsIn_wide.1 (right_in 4 (Nat.le_refl _) s hs w)
end Go.Proofs.YtlfmpoinjbmjoaaGreatDoor
