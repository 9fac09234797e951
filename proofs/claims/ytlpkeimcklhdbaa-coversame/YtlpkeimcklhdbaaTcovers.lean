/-
  Covering: the walk of Covers.
-/
import Derived.Test.YtlpkeimcklhdbaaTstep
namespace Go.Proofs.Ytlpkeimcklhdbaa
open Go.ChangeShapes Go.WideShapes Go.ChangeAt Go.RowKit Go.Shelf

attribute [local go_sem] Oper.semAt_some

namespace Tp
theorem covstep_hash {x : Q} (h : x.1 = hash) : covstep x = some true := if_pos h
theorem covstep_else {x : Q} (h : x.1 ≠ hash) : covstep x = if covlev x then none else some false := if_neg h
theorem meestep_hash {x : Q} (h : x.1 = hash ∨ x.2.1 = hash) : meestep x = some true := if_pos h
theorem meestep_else {x : Q} (h : ¬ (x.1 = hash ∨ x.2.1 = hash)) : meestep x = if meelev x then none else some false := if_neg h
theorem lesstep_end {x : Q} (h : x.2.2.1 = false ∨ x.2.2.2 = false) : lesstep x = some x.2.2.2 := if_pos h
theorem lesstep_ne {x : Q} (h : ¬ (x.2.2.1 = false ∨ x.2.2.2 = false)) (h2 : x.1 ≠ x.2.1) : lesstep x = some (Op.bytesLess x.1 x.2.1) := (if_neg h).trans (if_pos h2)
theorem lesstep_eq {x : Q} (h : ¬ (x.2.2.1 = false ∨ x.2.2.2 = false)) (h2 : x.1 = x.2.1) : lesstep x = none := (if_neg h).trans (if_neg (fun k => k h2))
end Tp

/-- a pair in a block of its own -/
def Box4 (W : World) (B : Nat) (x : PV) : Prop := W.heap[B]? = some (.cells #[.string x.a, .string x.b, .bool x.ha, .bool x.hb] 49 (0, 0))
theorem box4_new (W : World) (x : PV) : Box4 (W.alloc (.cells #[.string x.a, .string x.b, .bool x.ha, .bool x.hb] 49)) W.heap.size x := World.alloc_heap_new W _
theorem box4_own (B : Nat) (x : PV) : Own (fun (_ : Unit) W => Box4 W B x) := fun _ X _ _ hs hg hrow =>
  (hg.block B (Array.getElem?_eq_some_iff.1 (show X.heap[B]? = _ from hs)).1 (fun e' => by obtain ⟨o, ho, hc⟩ := hrow B e'.symm; rw [show X.heap[B]? = _ from hs] at ho; cases ho; cases hc)).trans hs
theorem box4_lt {W : World} {B : Nat} {x : PV} (h : Box4 W B x) : B < W.heap.size := (Array.getElem?_eq_some_iff.1 h).1
theorem box4_keeps {w w' : World} {B : Nat} {x : PV} (h : Box4 w B x) (k : Kept w w') : Box4 w' B x := (k.block B (box4_lt h)).trans h
theorem box4_a {W : World} {B : Nat} {x : PV} (h : Box4 W B x) : W.cell? ⟨B, 0, none⟩ = some (.string x.a) := by simp [World.cell?, show W.heap[B]? = _ from h]
theorem box4_b {W : World} {B : Nat} {x : PV} (h : Box4 W B x) : W.cell? ⟨B, 1, none⟩ = some (.string x.b) := by simp [World.cell?, show W.heap[B]? = _ from h]
theorem box4_ha {W : World} {B : Nat} {x : PV} (h : Box4 W B x) : W.cell? ⟨B, 2, none⟩ = some (.bool x.ha) := by simp [World.cell?, show W.heap[B]? = _ from h]
theorem box4_hb {W : World} {B : Nat} {x : PV} (h : Box4 W B x) : W.cell? ⟨B, 3, none⟩ = some (.bool x.hb) := by simp [World.cell?, show W.heap[B]? = _ from h]
theorem bel_kept {w w1 w2 : World} (h : Below w.heap.size w w1) (k : Kept w1 w2) : Below w.heap.size w w2 := h.trans (Below.mono k h.size)

set_option maxRecDepth 100000 in
set_option maxHeartbeats 4000000 in
theorem covers_in (n : Nat) (hn : 4 ≤ n) (s t : ByteArray) (hs : s.size ≤ 281474976710656) (ht : t.size ≤ 281474976710656) (w : World) :
    CallsIn Fence.wide n Try.prog 32 #[.string s, .string t] w fun e w' => e = .returned (.bool (Tp.covers s.data.toList t.data.toList)) ∧ Kept w w' := by
  have h1 : 1 ≤ n := by omega
  refine callsIn_of_wp_marks Try.func32 rfl trivial ?_ rfl
  simp only [Try.ntmps32, List.size_toArray, List.length_cons, List.length_nil, Nat.reduceAdd, Nat.reduceSub, Array.replicate_succ, Array.replicate_zero, List.push_toArray, List.append_toArray, List.nil_append, List.cons_append]
  have b0 := Boxed.new w 4 (.bool false)
  gi_wp2_with fail
  refine ⟨trivial, ?_⟩
  refine (callsIn_wide.2 (filter_any s _ hs)).mono ?_
  rintro e w1 ⟨rfl, k1⟩
  have b1 := box_keeps b0 k1
  have b1c := b1.cell
  have b1f := b1.frozen
  have hB1 : Below w.heap.size w w1 := bel_kept ((Below.refl _ w).alloc (Nat.le_refl _) _) k1
  have Hd : Hid (Tp.covers s.data.toList t.data.toList = (Tp.filter s.data.toList && Tp.filter t.data.toList && Tp.cov (Tp.lev s.data.toList) (Tp.wide t.data.toList))) := rfl
  cases hf : Tp.filter s.data.toList with
  | false =>
    have Hd2 : Hid (Tp.covers s.data.toList t.data.toList = false) := by show _ = _; rw [Hd.out, hf]; rfl
    gi_wp2_with fail
    refine ⟨trivial, ?_⟩
    gi_wp2_with fail
    exact ⟨.bool false, by simp [results, Try.f32, go_sem, World.cell?_setCell_same' w1 ⟨w.heap.size, 0, none⟩ (.bool false) (by rw [b1c]; rfl)], by rw [Hd2.out], hB1.setCell (p := ⟨w.heap.size, 0, none⟩) (Nat.le_refl _) _⟩
  | true =>
    have Hd1 : Hid (Tp.covers s.data.toList t.data.toList = (Tp.filter t.data.toList && Tp.cov (Tp.lev s.data.toList) (Tp.wide t.data.toList))) := by show _ = _; rw [Hd.out, hf]; rfl
    gi_wp2_with fail
    refine ⟨trivial, ?_⟩
    refine (callsIn_wide.2 (filter_any t _ ht)).mono ?_
    rintro e w2 ⟨rfl, k2⟩
    have b2 := box_keeps b1 k2
    have b2c := b2.cell
    have b2f := b2.frozen
    have hB2 : Below w.heap.size w w2 := bel_kept hB1 k2
    cases hg : Tp.filter t.data.toList with
    | false =>
      have Hd2 : Hid (Tp.covers s.data.toList t.data.toList = false) := by show _ = _; rw [Hd1.out, hg]; rfl
      gi_wp2_with fail
      exact ⟨.bool false, by simp [results, Try.f32, go_sem, World.cell?_setCell_same' w2 ⟨w.heap.size, 0, none⟩ (.bool false) (by rw [b2c]; rfl)], by rw [Hd2.out], hB2.setCell (p := ⟨w.heap.size, 0, none⟩) (Nat.le_refl _) _⟩
    | true =>
      have Hd2 : Hid (Tp.covers s.data.toList t.data.toList = Tp.cov (Tp.lev s.data.toList) (Tp.wide t.data.toList)) := by show _ = _; rw [Hd1.out, hg]; rfl
      by_cases hx : t.data.toList = [35]
      · have ex : (t.toList == [35]) = true := by rw [toList_eq, hx]; rfl
        have Hd3 : Hid (Tp.covers s.data.toList t.data.toList = Tp.run Tp.covstep true (Tp.prs (Tp.lev s.data.toList) (Tp.lev (⟨#[43, 47, 35]⟩ : ByteArray).data.toList))) := by
          show _ = _
          rw [Hd2.out, Tp.cov_prs, hx]; rfl
        clear hx
        gi_wp2_with fail
        refine ⟨trivial, ?_⟩
        refine (pairs_in (n - 1) s _ _).mono ?_
        rintro e w' ⟨rfl, rfl⟩
        gi_wp2_with fail
        have c1 := Boxed.new w2 9 (.string s)
        have c2 := Boxed.new (w2.alloc (.cells #[.string s] 9)) 9 (.string ⟨#[43, 47, 35]⟩)
        rw [World.size_alloc] at c2
        have c1' := (c1.alloc (.cells #[.string ⟨#[43, 47, 35]⟩] 9)).cell
        have c2' := c2.cell
        have hB0 : Below w.heap.size w ((w2.alloc (.cells #[.string s] 9)).alloc (.cells #[.string ⟨#[43, 47, 35]⟩] 9)) := ((hB2).alloc (hB2).size _).alloc (by have := (hB2).size; simp at this ⊢; omega) _
        have hw0 := (hB2).size
        have hbl := b2.lt
        refine wpIn_rangeFunc_ownH rfl h1 (gf := 58) (lb := #[.pointer (some ⟨w2.heap.size, 0, none⟩), .pointer (some ⟨w2.heap.size + 1, 0, none⟩)]) rfl trivial (enters_of Try.func58 (by kernel_rfl) rfl)
          (pairs_stops (n - 1) (by omega) (w2.heap.size) (w2.heap.size + 1) s ⟨#[43, 47, 35]⟩ hs (by decide) _ (by simp <;> omega) c1' (by simp) c2') (fun _ _ => trivial) (fun _ _ _ _ _ _ _ _ => trivial) (Below.refl _ _) (fun _ => rfl)
          (fun pre W => ((∀ y ∈ dats pre, Tp.covstep y = none) ∧ Boxed W w.heap.size 4 (.bool false)) ∧ Below w.heap.size w W)
          (fun c pre W => (c = .ret ∧ ∃ v, Tp.Stopped Tp.covstep (dats pre) v ∧ Boxed W w.heap.size 4 (.bool v)) ∧ Below w.heap.size w W)
          (OwnFrom.and (OwnFrom.and (ownFrom_pure _ _) (Own.from (boxed_own _ _ _) _)) (ownFrom_below (Nat.le_refl _) (by simp; omega)))
          (fun c => OwnFrom.and (fun s W W' row ⟨e, v, h2, h3⟩ hg hr => ⟨e, v, h2, Own.from (boxed_own _ _ fun _ => _) _ s W W' row h3 hg hr⟩) (ownFrom_below (Nat.le_refl _) (by simp; omega)))
          ⟨⟨fun y hy => (by simp [dats] at hy), (b2.alloc _).alloc _⟩, hB0⟩
          (fun x a' W => ∃ Bx, w.heap.size < Bx ∧ Box4 W Bx x ∧ a' = { tmps := #[.string s, .string ⟨#[43, 47, 35]⟩, undef, undef, .pointer (some ⟨w.heap.size, 0, none⟩), .pointer (some ⟨Bx, 0, none⟩), .string s, .bool true, .bool false, .bool false, .string t, .bool true, .bool false, .bool false, .string t, .bool true, .string s, .string ⟨#[43, 47, 35]⟩, .func (.func 58) #[] #[.pointer (some ⟨w2.heap.size, 0, none⟩), .pointer (some ⟨w2.heap.size + 1, 0, none⟩)], .agg #[.string x.a, .string x.b, .bool x.ha, .bool x.hb], undef, undef, undef, undef, undef, undef], defers := [] })
          (fun x a' s W W' row ⟨Bx, h1, h2, h3⟩ hg hr => ⟨Bx, h1, Own.from (box4_own Bx x) _ s W W' row h2 hg hr, h3⟩) ?assign ?body ?done ?stop
        case assign =>
          rintro l pre x W K ⟨⟨hi, hb⟩, hB⟩ hK
          gi_wp2
          exact hK _ _ ((KeepsOthers.alloc _ _).from _) trivial ⟨⟨hi, hb.alloc _⟩, hB.alloc hB.size _⟩ ⟨W.heap.size, hb.lt, box4_new W x, rfl⟩
        case body =>
          rintro l pre x a' W hl hr ⟨⟨hi, hb⟩, hB⟩ ⟨Bx, hBx, hx4, rfl⟩ _
          clear hl hr
          have hd : 1 ≤ n - 1 - 1 := by omega
          have Hi := Lib.hid hi
          have Hts := Lib.hid (dats_snoc pre x)
          have xa := box4_a hx4
          have xb := box4_b hx4
          have xha := box4_ha hx4
          have xhb := box4_hb hx4
          have hbc := hb.cell
          have hbf := hb.frozen
          clear hi
          by_cases hh : x.a.data.toList = [35]
          · have eh : (x.a.toList == [35]) = true := by rw [toList_eq, hh]; rfl
            have Hst := Lib.hid (Tp.covstep_hash (x := x.dat) hh)
            clear hh
            gi_wp2_with fail
            exact ⟨(KeepsOthers.setCell _ _ _).from _, ⟨rfl, _, ⟨_, _, Hts.out, Hi.out, Hst.out⟩, hb.set _⟩, hB.setCell (p := ⟨w.heap.size, 0, none⟩) (Nat.le_refl _) _⟩
          · have eh : (x.a.toList == [35]) = false := by rw [beq_eq_false_iff_ne, toList_eq]; exact hh
            have Hst := Lib.hid (Tp.covstep_else (x := x.dat) hh)
            clear hh
            gi_wp2_with fail
            refine ⟨trivial, ?_⟩
            refine (CallsIn.inRound l (callsIn_wide.2 (coversLevel_any x _))).mono ?_
            rintro e w' ⟨rfl, k⟩
            have d0 := box_keeps hb k
            have d0c := d0.cell
            have d0f := d0.frozen
            have hB' := bel_kept hB k
            cases hv : Tp.covlev x.dat with
            | false =>
              rw [hv] at Hst
              clear hv
              gi_wp2_with fail
              exact ⟨((others_kept k).trans (KeepsOthers.setCell _ _ _)).from _, ⟨rfl, _, ⟨_, _, Hts.out, Hi.out, Hst.out⟩, d0.set _⟩, hB'.setCell (p := ⟨w.heap.size, 0, none⟩) (Nat.le_refl _) _⟩
            | true =>
              rw [hv] at Hst
              clear hv
              gi_wp2_with fail
              exact ⟨(others_kept k).from _, trivial, ⟨by rw [Hts.out]; exact Tp.none_snoc Hi.out Hst.out, d0⟩, hB'⟩
        case done =>
          rintro D ys W hD hys ⟨⟨hi, hb⟩, hB⟩ hK
          have hbc := hb.cell
          have hbf := hb.frozen
          have Hr := Lib.hid (show Tp.run Tp.covstep true (Tp.prs (Tp.lev s.data.toList) (Tp.lev (⟨#[43, 47, 35]⟩ : ByteArray).data.toList)) = true by rw [← hys]; exact Tp.run_end _ hi)
          clear hys hi
          gi_wp2_with fail
          have hK' := (KeepsOthers.setCell W ⟨w.heap.size, 0, none⟩ (.bool true)).same D _ hK rfl
          refine ⟨by simp, .inl ⟨_, _, rfl, run_takeDeferred hK', ?_⟩⟩
          have hc5 := cell_kept (World.cell?_setCell_same' W ⟨w.heap.size, 0, none⟩ (.bool true) (by rw [hbc]; rfl)) (grownBy_putObj' _ D (.deferred none)) (fun r e => by cases e; exact ⟨_, hK', rfl⟩)
          refine ⟨.bool true, ?_, ?_, (hB.setCell (p := ⟨w.heap.size, 0, none⟩) (by simp) _).trans (belowK_b (w := w) (Nat.le_refl _) _ D _ _ (by simp at hD; omega) hK' rfl rfl)⟩
          · simp [results, Try.f32, go_sem, hc5]
          · rw [Hd3.out, Hr.out]
        case stop =>
          rintro D c pre W hD hpre ⟨⟨rfl, v, hin, hb⟩, hB⟩ hK
          have Hr := Lib.hid (Tp.run_stop (dflt := true) hpre hin)
          clear hin hpre
          gi_wp2
          refine ⟨by simp, .inl ⟨_, _, rfl, run_takeDeferred hK, ?_⟩⟩
          have hc5 := cell_kept hb.cell (grownBy_putObj' _ D (.deferred none)) (fun r e => by cases e; exact ⟨_, hK, rfl⟩)
          refine ⟨.bool v, ?_, ?_, hB.trans (belowK_b (w := w) (Nat.le_refl _) W D _ _ (by simp at hD; omega) hK rfl rfl)⟩
          · simp [results, Try.f32, go_sem, hc5]
          · rw [Hd3.out, Hr.out]
      · have ex : (t.toList == [35]) = false := by rw [beq_eq_false_iff_ne, toList_eq]; exact hx
        have Hd3 : Hid (Tp.covers s.data.toList t.data.toList = Tp.run Tp.covstep true (Tp.prs (Tp.lev s.data.toList) (Tp.lev t.data.toList))) := by
          show _ = _
          rw [Hd2.out, Tp.cov_prs, Tp.wide_lev hx]
        clear hx
        gi_wp2_with fail
        refine ⟨trivial, ?_⟩
        refine (pairs_in (n - 1) s _ _).mono ?_
        rintro e w' ⟨rfl, rfl⟩
        gi_wp2_with fail
        have c1 := Boxed.new w2 9 (.string s)
        have c2 := Boxed.new (w2.alloc (.cells #[.string s] 9)) 9 (.string t)
        rw [World.size_alloc] at c2
        have c1' := (c1.alloc (.cells #[.string t] 9)).cell
        have c2' := c2.cell
        have hB0 : Below w.heap.size w ((w2.alloc (.cells #[.string s] 9)).alloc (.cells #[.string t] 9)) := ((hB2).alloc (hB2).size _).alloc (by have := (hB2).size; simp at this ⊢; omega) _
        have hw0 := (hB2).size
        have hbl := b2.lt
        refine wpIn_rangeFunc_ownH rfl h1 (gf := 58) (lb := #[.pointer (some ⟨w2.heap.size, 0, none⟩), .pointer (some ⟨w2.heap.size + 1, 0, none⟩)]) rfl trivial (enters_of Try.func58 (by kernel_rfl) rfl)
          (pairs_stops (n - 1) (by omega) (w2.heap.size) (w2.heap.size + 1) s t hs ht _ (by simp <;> omega) c1' (by simp) c2') (fun _ _ => trivial) (fun _ _ _ _ _ _ _ _ => trivial) (Below.refl _ _) (fun _ => rfl)
          (fun pre W => ((∀ y ∈ dats pre, Tp.covstep y = none) ∧ Boxed W w.heap.size 4 (.bool false)) ∧ Below w.heap.size w W)
          (fun c pre W => (c = .ret ∧ ∃ v, Tp.Stopped Tp.covstep (dats pre) v ∧ Boxed W w.heap.size 4 (.bool v)) ∧ Below w.heap.size w W)
          (OwnFrom.and (OwnFrom.and (ownFrom_pure _ _) (Own.from (boxed_own _ _ _) _)) (ownFrom_below (Nat.le_refl _) (by simp; omega)))
          (fun c => OwnFrom.and (fun s W W' row ⟨e, v, h2, h3⟩ hg hr => ⟨e, v, h2, Own.from (boxed_own _ _ fun _ => _) _ s W W' row h3 hg hr⟩) (ownFrom_below (Nat.le_refl _) (by simp; omega)))
          ⟨⟨fun y hy => (by simp [dats] at hy), (b2.alloc _).alloc _⟩, hB0⟩
          (fun x a' W => ∃ Bx, w.heap.size < Bx ∧ Box4 W Bx x ∧ a' = { tmps := #[.string s, .string t, undef, undef, .pointer (some ⟨w.heap.size, 0, none⟩), .pointer (some ⟨Bx, 0, none⟩), .string s, .bool true, .bool false, .bool false, .string t, .bool true, .bool false, .bool false, .string t, .bool false, .string s, .string t, .func (.func 58) #[] #[.pointer (some ⟨w2.heap.size, 0, none⟩), .pointer (some ⟨w2.heap.size + 1, 0, none⟩)], .agg #[.string x.a, .string x.b, .bool x.ha, .bool x.hb], undef, undef, undef, undef, undef, undef], defers := [] })
          (fun x a' s W W' row ⟨Bx, h1, h2, h3⟩ hg hr => ⟨Bx, h1, Own.from (box4_own Bx x) _ s W W' row h2 hg hr, h3⟩) ?assign ?body ?done ?stop
        case assign =>
          rintro l pre x W K ⟨⟨hi, hb⟩, hB⟩ hK
          gi_wp2
          exact hK _ _ ((KeepsOthers.alloc _ _).from _) trivial ⟨⟨hi, hb.alloc _⟩, hB.alloc hB.size _⟩ ⟨W.heap.size, hb.lt, box4_new W x, rfl⟩
        case body =>
          rintro l pre x a' W hl hr ⟨⟨hi, hb⟩, hB⟩ ⟨Bx, hBx, hx4, rfl⟩ _
          clear hl hr
          have hd : 1 ≤ n - 1 - 1 := by omega
          have Hi := Lib.hid hi
          have Hts := Lib.hid (dats_snoc pre x)
          have xa := box4_a hx4
          have xb := box4_b hx4
          have xha := box4_ha hx4
          have xhb := box4_hb hx4
          have hbc := hb.cell
          have hbf := hb.frozen
          clear hi
          by_cases hh : x.a.data.toList = [35]
          · have eh : (x.a.toList == [35]) = true := by rw [toList_eq, hh]; rfl
            have Hst := Lib.hid (Tp.covstep_hash (x := x.dat) hh)
            clear hh
            gi_wp2_with fail
            exact ⟨(KeepsOthers.setCell _ _ _).from _, ⟨rfl, _, ⟨_, _, Hts.out, Hi.out, Hst.out⟩, hb.set _⟩, hB.setCell (p := ⟨w.heap.size, 0, none⟩) (Nat.le_refl _) _⟩
          · have eh : (x.a.toList == [35]) = false := by rw [beq_eq_false_iff_ne, toList_eq]; exact hh
            have Hst := Lib.hid (Tp.covstep_else (x := x.dat) hh)
            clear hh
            gi_wp2_with fail
            refine ⟨trivial, ?_⟩
            refine (CallsIn.inRound l (callsIn_wide.2 (coversLevel_any x _))).mono ?_
            rintro e w' ⟨rfl, k⟩
            have d0 := box_keeps hb k
            have d0c := d0.cell
            have d0f := d0.frozen
            have hB' := bel_kept hB k
            cases hv : Tp.covlev x.dat with
            | false =>
              rw [hv] at Hst
              clear hv
              gi_wp2_with fail
              exact ⟨((others_kept k).trans (KeepsOthers.setCell _ _ _)).from _, ⟨rfl, _, ⟨_, _, Hts.out, Hi.out, Hst.out⟩, d0.set _⟩, hB'.setCell (p := ⟨w.heap.size, 0, none⟩) (Nat.le_refl _) _⟩
            | true =>
              rw [hv] at Hst
              clear hv
              gi_wp2_with fail
              exact ⟨(others_kept k).from _, trivial, ⟨by rw [Hts.out]; exact Tp.none_snoc Hi.out Hst.out, d0⟩, hB'⟩
        case done =>
          rintro D ys W hD hys ⟨⟨hi, hb⟩, hB⟩ hK
          have hbc := hb.cell
          have hbf := hb.frozen
          have Hr := Lib.hid (show Tp.run Tp.covstep true (Tp.prs (Tp.lev s.data.toList) (Tp.lev (t : ByteArray).data.toList)) = true by rw [← hys]; exact Tp.run_end _ hi)
          clear hys hi
          gi_wp2_with fail
          have hK' := (KeepsOthers.setCell W ⟨w.heap.size, 0, none⟩ (.bool true)).same D _ hK rfl
          refine ⟨by simp, .inl ⟨_, _, rfl, run_takeDeferred hK', ?_⟩⟩
          have hc5 := cell_kept (World.cell?_setCell_same' W ⟨w.heap.size, 0, none⟩ (.bool true) (by rw [hbc]; rfl)) (grownBy_putObj' _ D (.deferred none)) (fun r e => by cases e; exact ⟨_, hK', rfl⟩)
          refine ⟨.bool true, ?_, ?_, (hB.setCell (p := ⟨w.heap.size, 0, none⟩) (by simp) _).trans (belowK_b (w := w) (Nat.le_refl _) _ D _ _ (by simp at hD; omega) hK' rfl rfl)⟩
          · simp [results, Try.f32, go_sem, hc5]
          · rw [Hd3.out, Hr.out]
        case stop =>
          rintro D c pre W hD hpre ⟨⟨rfl, v, hin, hb⟩, hB⟩ hK
          have Hr := Lib.hid (Tp.run_stop (dflt := true) hpre hin)
          clear hin hpre
          gi_wp2
          refine ⟨by simp, .inl ⟨_, _, rfl, run_takeDeferred hK, ?_⟩⟩
          have hc5 := cell_kept hb.cell (grownBy_putObj' _ D (.deferred none)) (fun r e => by cases e; exact ⟨_, hK, rfl⟩)
          refine ⟨.bool v, ?_, ?_, hB.trans (belowK_b (w := w) (Nat.le_refl _) W D _ _ (by simp at hD; omega) hK rfl rfl)⟩
          · simp [results, Try.f32, go_sem, hc5]
          · rw [Hd3.out, Hr.out]

theorem covers_any (s t : ByteArray) (w : World) (hs : s.size ≤ 281474976710656) (ht : t.size ≤ 281474976710656) :
    Calls Try.prog 32 #[.string s, .string t] w fun e w' => e = .returned (.bool (Tp.covers s.data.toList t.data.toList)) ∧ Kept w w' :=
  callsIn_wide.1 (covers_in 4 (Nat.le_refl _) s t hs ht w)
end Go.Proofs.Ytlpkeimcklhdbaa
