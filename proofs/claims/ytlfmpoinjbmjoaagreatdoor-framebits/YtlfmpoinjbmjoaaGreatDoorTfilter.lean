/-
  Whether a text is a filter: the walk of Filter.
-/
import Derived.Test.YtlfmpoinjbmjoaaGreatDoorTright
namespace Go.Proofs.YtlfmpoinjbmjoaaGreatDoor
open Go.ChangeShapes Go.WideShapes Go.ChangeAt Go.RowKit Go.Shelf

attribute [local go_sem] Oper.semAt_some

namespace Tp
theorem filt_app : ∀ (q : List L) (y : L) (t : List L), filt (q ++ y :: t) = (q.all part && filt (y :: t))
  | [], y, t => by simp
  | [x], y, t => by simp [filt]
  | x :: z :: q, y, t => by
    have := filt_app (z :: q) y t
    simp only [List.cons_append] at this ⊢
    rw [filt, this]; simp [Bool.and_assoc]
theorem filt_all : ∀ q : List L, q.all part = true → filt q = true
  | [], _ => rfl
  | [x], h => by simp at h; simp [filt, h]
  | x :: z :: q, h => by
    rw [List.all_cons, Bool.and_eq_true] at h
    rw [filt, h.1, filt_all (z :: q) h.2]; rfl
theorem part_hash : part hash = false := by decide
theorem filt_one (x : L) : filt [x] = (part x || x == hash) := rfl
theorem filt_bad {x : L} (h1 : part x = false) (h2 : x ≠ hash) (t : List L) : filt (x :: t) = false := by
  cases t with
  | nil => rw [filt_one, h1]; simp [h2]
  | cons y t => rw [filt, h1]; rfl
/-- levels that may begin a filter; whether # has come -/
def FTo (pre : List L) (ended : Bool) : Prop := (ended = false ∧ pre.all part = true) ∨ (ended = true ∧ ∃ q, pre = q ++ [hash] ∧ q.all part = true)
def FBad (pre : List L) : Prop := 8 < pre.length ∨ ∀ t, filt (pre ++ t) = false
theorem fto_start : FTo [] false := .inl ⟨rfl, rfl⟩
theorem fto_end {pre : List L} {e : Bool} (h : FTo pre e) : filt pre = true := by
  rcases h with ⟨_, h⟩ | ⟨_, q, rfl, h⟩
  · exact filt_all _ h
  · rw [filt_app, h]; rfl
theorem fto_ended {pre : List L} (h : FTo pre true) (x : L) : FBad (pre ++ [x]) := by
  rcases h with ⟨h, _⟩ | ⟨_, q, rfl, h⟩
  · cases h
  · refine .inr fun t => ?_
    have e : q ++ [hash] ++ [x] ++ t = q ++ hash :: x :: t := by simp
    rw [e, filt_app, filt, part_hash]; simp
theorem fto_hash {pre : List L} (h : FTo pre false) : FTo (pre ++ [hash]) true := by
  rcases h with ⟨_, h⟩ | ⟨h, _⟩
  · exact .inr ⟨rfl, pre, rfl, h⟩
  · cases h
theorem fto_part {pre : List L} (h : FTo pre false) {x : L} (hx : part x = true) : FTo (pre ++ [x]) false := by
  rcases h with ⟨_, h⟩ | ⟨h, _⟩
  · exact .inl ⟨rfl, by rw [List.all_append, h]; simp [hx]⟩
  · cases h
theorem fto_bad {pre : List L} {x : L} (h1 : part x = false) (h2 : x ≠ hash) : FBad (pre ++ [x]) := by
  refine .inr fun t => ?_
  have e : pre ++ [x] ++ t = pre ++ x :: t := by simp
  rw [e, filt_app, filt_bad h1 h2]; simp
theorem filter_stop {s : L} {pre : List L} (h : pre <+: lev s) (hb : FBad pre) : filter s = false := by
  obtain ⟨t, ht⟩ := h
  rw [filter, ← ht, List.length_append]
  rcases hb with hb | hb
  · rw [decide_eq_false (by omega)]; rfl
  · rw [hb t]; simp
end Tp

set_option maxRecDepth 100000 in
set_option maxHeartbeats 2000000 in
theorem filter_in (n : Nat) (hn : 4 ≤ n) (s : ByteArray) (hs : s.size ≤ 281474976710656) (w : World) :
    CallsIn Fence.wide n Tryz.prog 172 #[.string s] w fun e w' => e = .returned (.bool (Tp.filter s.data.toList)) ∧ Kept w w' := by
  have h1 : 1 ≤ n := by omega
  refine callsIn_of_wp_marks Tryz.func172 rfl trivial ?_ rfl
  simp only [Tryz.ntmps172, List.size_toArray, List.length_cons, List.length_nil, Nat.reduceAdd, Nat.reduceSub, Array.replicate_succ, Array.replicate_zero, List.push_toArray, List.append_toArray, List.nil_append, List.cons_append]
  gi_wp2_with fail
  refine ⟨trivial, ?_⟩
  refine (levels_in (n - 1) s _).mono ?_
  rintro e w' ⟨rfl, rfl⟩
  gi_wp2_with fail
  have b0 := Boxed.new w 4 (.bool false)
  have b1 := Boxed.new (w.alloc (.cells #[.bool false] 4)) 3 (.int .i64 0)
  have b2 := Boxed.new ((w.alloc (.cells #[.bool false] 4)).alloc (.cells #[.int .i64 0] 3)) 4 (.bool false)
  have b3 := Boxed.new (((w.alloc (.cells #[.bool false] 4)).alloc (.cells #[.int .i64 0] 3)).alloc (.cells #[.bool false] 4)) 9 (.string s)
  simp only [World.size_alloc] at b1 b2 b3
  have hB0 : Below w.heap.size w ((((w.alloc (.cells #[.bool false] 4)).alloc (.cells #[.int .i64 0] 3)).alloc (.cells #[.bool false] 4)).alloc (.cells #[.string s] 9)) := ((((Below.refl _ w).alloc (Nat.le_refl _) _).alloc (by simp) _).alloc (by simp; omega) _).alloc (by simp; omega) _
  refine wpIn_rangeFunc_ownG rfl h1 (gf := 151) (lb := #[.pointer (some ⟨w.heap.size + 1 + 1 + 1, 0, none⟩)]) rfl trivial (enters_of Tryz.func151 (by kernel_rfl) rfl)
    (levels_stops (n - 1) (by omega) (w.heap.size + 1 + 1 + 1) s hs _ (by simp) b3.cell) (fun _ _ => trivial) (fun _ _ _ _ _ _ _ _ => trivial) (Below.refl _ _) (fun _ => rfl)
    (fun pre W => (∃ e, pre.length ≤ 8 ∧ Tp.FTo (txts pre) e ∧ Boxed W w.heap.size 4 (.bool false) ∧ Boxed W (w.heap.size + 1) 3 (.int .i64 pre.length) ∧ Boxed W (w.heap.size + 1 + 1) 4 (.bool e)) ∧ Below w.heap.size w W)
    (fun c pre W => (c = .ret ∧ Tp.FBad (txts pre) ∧ Boxed W w.heap.size 4 (.bool false)) ∧ Below w.heap.size w W)
    (OwnFrom.and (fun s W W' row ⟨e, h1, h2, h3, h4, h5⟩ hg hr => ⟨e, h1, h2, Own.from (boxed_own _ _ fun _ => _) _ s W W' row h3 hg hr, Own.from (boxed_own _ _ fun _ => _) _ s W W' row h4 hg hr, Own.from (boxed_own _ _ fun _ => _) _ s W W' row h5 hg hr⟩) (ownFrom_below (Nat.le_refl _) (by simp; omega)))
    (fun c => OwnFrom.and (OwnFrom.and (ownFrom_pure _ _) (OwnFrom.and (ownFrom_pure _ _) (Own.from (boxed_own _ _ _) _))) (ownFrom_below (Nat.le_refl _) (by simp; omega)))
    ⟨⟨false, Nat.zero_le _, Tp.fto_start, ((b0.alloc _).alloc _).alloc _, (b1.alloc _).alloc _, b2.alloc _⟩, hB0⟩
    (fun x => { tmps := #[.string s, undef, .pointer (some ⟨w.heap.size, 0, none⟩), .pointer (some ⟨w.heap.size + 1, 0, none⟩), .pointer (some ⟨w.heap.size + 1 + 1, 0, none⟩), .string x.1, .string s, .func (.func 151) #[] #[.pointer (some ⟨w.heap.size + 1 + 1 + 1, 0, none⟩)], .string x.1, undef, undef, undef, undef, undef, undef, undef, undef, undef, undef, undef, undef, undef, undef, undef, undef, undef, undef, undef, undef], defers := [] }) ?assign ?body ?done ?stop
  case assign =>
    intro l x W K hK
    gi_wp2
    exact hK
  case body =>
    rintro l pre x W ⟨⟨en, hl, hto, c0, c1, c2⟩, hB⟩ _
    have c1' := c1.cell
    have c0' := c0.cell
    have c2' := c2.cell
    have f0' := c0.frozen
    have f1' := c1.frozen
    have f2' := c2.frozen
    have hd : 1 ≤ n - 1 - 1 := by omega
    have Hts := Lib.hid (txts_snoc pre x)
    have tl : (txts (pre ++ [x])).length = pre.length + 1 := by simp [txts]
    have Htl := Lib.hid tl
    have Hto := Lib.hid hto
    have hne1 : w.heap.size ≠ w.heap.size + 1 := by omega
    have hne2 : w.heap.size ≠ w.heap.size + 1 + 1 := by omega
    have hne3 : w.heap.size + 1 ≠ w.heap.size + 1 + 1 := by omega
    have Hne1 := Lib.hid hne1
    have Hne2 := Lib.hid hne2
    have Hne3 := Lib.hid hne3
    clear hto tl hne1 hne2 hne3
    by_cases h8 : pre.length = 8
    · have e8 : ((pre.length : Int) == 8) = true := by rw [h8]; rfl
      gi_wp2_with fail
      exact ⟨(KeepsOthers.setCell _ _ _).from _, ⟨rfl, .inl (by rw [Htl.out]; omega), c0.set _⟩, hB.setCell (p := ⟨w.heap.size, 0, none⟩) (Nat.le_refl _) _⟩
    · have e8 : ((pre.length : Int) == 8) = false := by rw [beq_eq_false_iff_ne]; omega
      cases en with
      | true =>
        gi_wp2_with fail
        exact ⟨(KeepsOthers.setCell _ _ _).from _, ⟨rfl, by rw [Hts.out]; exact Tp.fto_ended Hto.out _, c0.set _⟩, hB.setCell (p := ⟨w.heap.size, 0, none⟩) (Nat.le_refl _) _⟩
      | false =>
        by_cases hx : x.1.data.toList = [35]
        · have ex : (x.1.toList == [35]) = true := by rw [toList_eq, hx]; rfl
          have Hx := Lib.hid hx
          have d0 := c0.other Hne2.out (.bool true)
          have d1 := c1.other Hne3.out (.bool true)
          have d2 := c2.set (.bool true)
          have d1' := d1.cell
          have g1' := d1.frozen
          have d2' := d2.cell
          clear hx
          gi_wp2_with fail
          refine ⟨trivial, ?_⟩
          gi_wp2_with fail
          refine ⟨((KeepsOthers.setCell _ _ _).trans (KeepsOthers.setCell _ _ _)).from _, trivial, ⟨true, ?_, ?_, d0.other Hne1.out _, ?_, d2.other Hne3.out.symm _⟩, (hB.setCell (p := ⟨w.heap.size + 1 + 1, 0, none⟩) (by simp; omega) _).setCell (p := ⟨w.heap.size + 1, 0, none⟩) (by simp) _⟩
          · rw [List.length_append, List.length_singleton]; omega
          · rw [Hts.out, Hx.out]; exact Tp.fto_hash Hto.out
          · rw [List.length_append, List.length_singleton]; exact d1.set _
        · have ex : (x.1.toList == [35]) = false := by rw [beq_eq_false_iff_ne, toList_eq]; exact hx
          have d0 := c0.other Hne2.out (.bool false)
          have d1 := c1.other Hne3.out (.bool false)
          have d2 := c2.set (.bool false)
          have d1' := d1.cell
          have g1' := d1.frozen
          have d2' := d2.cell
          have d0' := d0.cell
          have g0' := d0.frozen
          have Hx := Lib.hid hx
          clear hx
          by_cases hy : x.1.data.toList = [43]
          · have ey : (x.1.toList == [43]) = true := by rw [toList_eq, hy]; rfl
            have ey2 : (x.1.toList != [43]) = false := by simp [bne, ey]
            have Hy := Lib.hid hy
            clear hy
            gi_wp2_with fail
            refine ⟨trivial, ?_⟩
            gi_wp2_with fail
            refine ⟨((KeepsOthers.setCell _ _ _).trans (KeepsOthers.setCell _ _ _)).from _, trivial, ⟨false, ?_, ?_, d0.other Hne1.out _, ?_, d2.other Hne3.out.symm _⟩, (hB.setCell (p := ⟨w.heap.size + 1 + 1, 0, none⟩) (by simp; omega) _).setCell (p := ⟨w.heap.size + 1, 0, none⟩) (by simp) _⟩
            · rw [List.length_append, List.length_singleton]; omega
            · rw [Hts.out, Hy.out]; exact Tp.fto_part Hto.out (by decide)
            · rw [List.length_append, List.length_singleton]; exact d1.set _
          · have ey : (x.1.toList == [43]) = false := by rw [beq_eq_false_iff_ne, toList_eq]; exact hy
            have ey2 : (x.1.toList != [43]) = true := by simp [bne, ey]
            have Hp : Hid (Tp.part x.1.data.toList = Tp.name x.1.data.toList) := by
              show _ = _
              rw [Tp.part, beq_eq_false_iff_ne.2 hy]; simp
            clear hy
            gi_wp2_with fail
            refine ⟨trivial, ?_⟩
            refine (CallsIn.inRound l (callsIn_wide.2 (isName_any x.1 _))).mono ?_
            rintro e w' ⟨rfl, k⟩
            have i0 := box_keeps d0 k
            have i1 := box_keeps d1 k
            have i2 := box_keeps d2 k
            have i1' := i1.cell
            have j1' := i1.frozen
            have i0' := i0.cell
            have j0' := i0.frozen
            have hB' : Below w.heap.size w w' := (hB.setCell (p := ⟨w.heap.size + 1 + 1, 0, none⟩) (by simp; omega) _).trans (Below.mono k (by simp; exact hB.size))
            cases hb : Tp.name x.1.data.toList with
            | false =>
              rw [hb] at Hp
              clear hb
              gi_wp2_with fail
              exact ⟨(((KeepsOthers.setCell _ _ _).trans (others_kept k)).trans (KeepsOthers.setCell _ _ _)).from _, ⟨rfl, by rw [Hts.out]; exact Tp.fto_bad Hp.out Hx.out, i0.set _⟩, hB'.setCell (p := ⟨w.heap.size, 0, none⟩) (Nat.le_refl _) _⟩
            | true =>
              rw [hb] at Hp
              clear hb
              gi_wp2_with fail
              refine ⟨(((KeepsOthers.setCell _ _ _).trans (others_kept k)).trans (KeepsOthers.setCell _ _ _)).from _, trivial, ⟨false, ?_, ?_, i0.other Hne1.out _, ?_, i2.other Hne3.out.symm _⟩, hB'.setCell (p := ⟨w.heap.size + 1, 0, none⟩) (by simp) _⟩
              · rw [List.length_append, List.length_singleton]; omega
              · rw [Hts.out]; exact Tp.fto_part Hto.out Hp.out
              · rw [List.length_append, List.length_singleton]; exact i1.set _
  case done =>
    rintro D ys W hD hys ⟨⟨en, hl, hto, c0, c1, c2⟩, hB⟩ hK
    have c0' := c0.cell
    have f0' := c0.frozen
    have Hr : Hid (Tp.filter s.data.toList = true) := by
      show _ = _
      have : ys.length = (Tp.lev s.data.toList).length := by rw [← hys]; simp [txts]
      rw [Tp.filter, ← hys, Tp.fto_end hto, decide_eq_true (by simp [txts]; omega)]; rfl
    clear hys hto
    gi_wp2_with fail
    have hK' := (KeepsOthers.setCell W ⟨w.heap.size, 0, none⟩ (.bool true)).same D _ hK rfl
    refine ⟨by simp, .inl ⟨_, _, rfl, run_takeDeferred hK', ?_⟩⟩
    have hc5 := cell_kept (World.cell?_setCell_same' W ⟨w.heap.size, 0, none⟩ (.bool true) (by rw [c0']; rfl)) (grownBy_putObj' _ D (.deferred none)) (fun r e => by cases e; exact ⟨_, hK', rfl⟩)
    refine ⟨.bool true, ?_, by rw [Hr.out], (hB.setCell (p := ⟨w.heap.size, 0, none⟩) (by simp) _).trans (belowK_b (w := w) (Nat.le_refl _) _ D _ _ (by simp at hD; omega) hK' rfl rfl)⟩
    simp [results, Tryz.f172, go_sem, hc5]
  case stop =>
    rintro D c pre W hD hpre ⟨⟨rfl, hin, c0⟩, hB⟩ hK
    have Hr := Lib.hid (Tp.filter_stop hpre hin)
    clear hin
    gi_wp2
    refine ⟨by simp, .inl ⟨_, _, rfl, run_takeDeferred hK, ?_⟩⟩
    have hc5 := cell_kept c0.cell (grownBy_putObj' _ D (.deferred none)) (fun r e => by cases e; exact ⟨_, hK, rfl⟩)
    refine ⟨.bool false, ?_, by rw [Hr.out], hB.trans (belowK_b (w := w) (Nat.le_refl _) W D _ _ (by simp at hD; omega) hK rfl rfl)⟩
    simp [results, Tryz.f172, go_sem, hc5]

theorem filter_any (s : ByteArray) (w : World) (hs : s.size ≤ 281474976710656) :
    Calls Tryz.prog 172 #[.string s] w fun e w' => e = .returned (.bool (Tp.filter s.data.toList)) ∧ Kept w w' :=
  callsIn_wide.1 (filter_in 4 (Nat.le_refl _) s hs w)
end Go.Proofs.YtlfmpoinjbmjoaaGreatDoor
