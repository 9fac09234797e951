/-
  Two rows one behind the other: the walks of slices.Concat and Join.
-/
import Derived.Test.YtlpkeimcklhdbaaOleast
import Derived.Test.YtlpkeimcklhdbaaOins
import Derived.Shelf.Spec.SlicesGrow
namespace Go.Proofs.Ytlpkeimcklhdbaa
open Go.ChangeShapes Go.WideShapes Go.ChangeAt Go.RowKit Go.Shelf

theorem grow_any (n : Nat) (hn : n ≤ 1000000) (w : World) :
    Calls Try.prog 50 #[.slice none 0 0, .int .i64 n] w fun e w' => ∃ v, e = .returned v ∧ OwnS w' w.heap.size v [] ∧ Kept w w' := by
  by_cases h0 : n = 0
  · subst h0
    refine (Any8.slices_Grow_room Try.growS none 0 0 0 w (Nat.le_refl _) (by omega) (by omega) (Nat.le_refl _)).mono ?_
    rintro e w' ⟨rfl, rfl⟩
    exact ⟨_, rfl, OwnS.nil _ _, Kept.refl _⟩
  · obtain ⟨i0, hi, hz0, hz1, hz2⟩ := info_parts infoStr
    refine (Any8.slices_Grow_grow Try.growS i0 (.string ⟨#[]⟩) hi hz0 (by omega) none 0 0 n [] w (Nat.le_refl _) (by omega) (by rw [hz2]; omega) (by omega) (by simp) (fun _ => rfl) (fun _ h => by cases h)).mono ?_
    rintro e w' ⟨rfl, rfl⟩
    have hge := grownCap_ge w (0 + n) 0 (Try.growS_ren.t 25)
    have hle := grownCap_le_maxLen w (0 + n) 0 (Try.growS_ren.t 25) (by unfold maxLen; omega)
    refine ⟨_, rfl, ⟨rfl, .inr ⟨w.heap.size, _, _, rfl, Nat.le_refl _, heap_alloc_new w.drew _, Nat.zero_le _, hle, ?_, rfl⟩⟩, Kept.alloc (Kept.drew (Kept.refl w)) _⟩
    simp only [Array.size_append, size_zeroCells, Value.cells, List.size_toArray, List.length_cons, List.length_nil]
    omega

set_option maxHeartbeats 2000000 in
set_option maxRecDepth 100000 in
theorem concat_any (v1 v2 : Value) (xs ys : List (List UInt8)) (b1 b2 g : Nat) (w : World) (h1 : OwnS w b1 v1 xs) (h2 : OwnS w b2 v2 ys) (lx : xs.length ≤ 400) (ly : ys.length ≤ 400)
    (c1 : w.cell? ⟨g, 0, none⟩ = some v1) (c2 : w.cell? ⟨g, 1, none⟩ = some v2) :
    Calls Try.prog 34 #[.slice (some ⟨g, 0, none⟩) 2 2] w fun e w' => ∃ v', e = .returned v' ∧ OwnS w' w.heap.size v' (xs ++ ys) ∧ Kept w w' := by
  obtain ⟨a1, cap1, rfl, _, hm1, _⟩ := strs_get h1.strs
  obtain ⟨a2, cap2, rfl, _, hm2, _⟩ := strs_get h2.strs
  unfold maxLen at hm1 hm2
  have H1 := Lib.hid h1
  have H2 := Lib.hid h2
  have hg := World.block_lt_of_cell? w _ c1
  have C1 := Lib.hid c1
  have C2 := Lib.hid c2
  clear h1 h2
  go_enter Try.func34, Try.ntmps34
  go_wp2
  go_loopw [3, 11] (fun s i wr => wr = w ∧ ((s = .int .i64 0 ∧ i = .int .i64 0) ∨ (s = .int .i64 xs.length ∧ i = .int .i64 1) ∨ (s = .int .i64 (xs.length + ys.length : Nat) ∧ i = .int .i64 2))) (fun _ i _ => 2 - (intOf i).toNat)
  case atStart => exact ⟨rfl, .inl ⟨rfl, rfl⟩⟩
  case round =>
    obtain ⟨rfl, ⟨rfl, rfl⟩ | ⟨rfl, rfl⟩ | ⟨rfl, rfl⟩⟩ := hrel
    · go_wp2
      go_roundw
      case rel => exact ⟨trivial, .inr (.inl ⟨by go_num, by go_num⟩)⟩
      case measure => simp [intOf]
    · go_wp2
      go_roundw
      case rel => exact ⟨trivial, .inr (.inr ⟨by go_num, by go_num⟩)⟩
      case measure => simp [intOf]
    · clear c1 c2
      go_wp2_with fail
      refine (grow_any (xs.length + ys.length) (by omega) _).mono ?_
      rintro e w1 ⟨u, rfl, o1, k1⟩
      have O1 := Lib.hid o1
      clear o1
      go_wp2
      go_loopw [6, 27] (fun r i wx => Kept wr wx ∧ ((OwnS wx wr.heap.size r [] ∧ i = .int .i64 0) ∨ (OwnS wx wr.heap.size r xs ∧ i = .int .i64 1) ∨ (OwnS wx wr.heap.size r (xs ++ ys) ∧ i = .int .i64 2))) (fun _ i _ => 2 - (intOf i).toNat)
      case atStart => exact ⟨k1, .inl ⟨O1.out, rfl⟩⟩
      case round =>
        obtain ⟨kx, ⟨o, rfl⟩ | ⟨o, rfl⟩ | ⟨o, rfl⟩⟩ := hrel
        · have hck := (Below.cell kx (p := ⟨g, 0, none⟩) hg).trans C1.out
          have OO := Lib.hid o
          clear o
          go_wp2_with (first | (at_builtin; refine wp_own OO.out (H1.out.kept kx) (by simp; omega) kx.size rfl _ _ rfl rfl rfl ?_))
          intro v3 w3 o3 b3 _
          go_wp2
          go_roundw
          case rel => exact ⟨Below.trans kx b3, .inr (.inl ⟨by simpa using o3, by go_num⟩)⟩
          case measure => simp [intOf]
        · have hck := (Below.cell kx (p := ⟨g, 1, none⟩) hg).trans C2.out
          have OO := Lib.hid o
          clear o
          go_wp2_with (first | (at_builtin; refine wp_own OO.out (H2.out.kept kx) (by omega) kx.size rfl _ _ rfl rfl rfl ?_))
          intro v3 w3 o3 b3 _
          go_wp2
          go_roundw
          case rel => exact ⟨Below.trans kx b3, .inr (.inr ⟨o3, by go_num⟩)⟩
          case measure => simp [intOf]
        · go_wp2
          go_ret
          exact ⟨_, rfl, o, kx⟩

set_option maxHeartbeats 1000000 in
set_option maxRecDepth 100000 in
theorem Join_any (v1 v2 : Value) (xs ys : List (List UInt8)) (b1 b2 : Nat) (w : World) (h1 : OwnS w b1 v1 xs) (h2 : OwnS w b2 v2 ys) (lx : xs.length ≤ 400) (ly : ys.length ≤ 400) (sx : ∀ x ∈ xs, x.length ≤ 1000) (sy : ∀ x ∈ ys, x.length ≤ 1000) :
    Calls Try.prog 14 #[v1, v2] w fun e w' => ∃ v', e = .returned v' ∧ OwnS w' w.heap.size v' (Tp.least (xs ++ ys)) ∧ Kept w w' := by
  have Hs : Hid (∀ x ∈ xs ++ ys, x.length ≤ 1000) := fun x hx => by
    rcases List.mem_append.1 hx with h | h
    · exact sx x h
    · exact sy x h
  have HL := Lib.hid (show (xs ++ ys).length ≤ 1000 by rw [List.length_append]; omega)
  obtain ⟨a1, cap1, rfl, _, _, _⟩ := strs_get h1.strs
  obtain ⟨a2, cap2, rfl, _, _, _⟩ := strs_get h2.strs
  have H1 := Lib.hid h1
  have H2 := Lib.hid h2
  clear h1 h2 sx sy
  go_enter Try.func14, Try.ntmps14
  go_wp2_with fail
  have ka : Kept w (w.alloc (.cells #[.slice a1 xs.length cap1, .slice a2 ys.length cap2] 22)) := Kept.alloc (Kept.refl w) _
  refine (concat_any _ _ xs ys b1 b2 w.heap.size _ (H1.out.kept ka) (H2.out.kept ka) lx ly (by simp) (by simp)).mono ?_
  rintro e w1 ⟨u, rfl, o1, k1⟩
  have O1 := Lib.hid o1
  have K1 := ka.trans k1
  clear o1
  go_wp2_with fail
  refine (Least_any u _ w1 O1.out.strs HL.out Hs.out).mono ?_
  rintro e w2 ⟨u2, rfl, o2, k2⟩
  go_wp2
  go_ret
  exact ⟨_, rfl, o2.mono K1.size, K1.trans k2⟩
end Go.Proofs.Ytlpkeimcklhdbaa
