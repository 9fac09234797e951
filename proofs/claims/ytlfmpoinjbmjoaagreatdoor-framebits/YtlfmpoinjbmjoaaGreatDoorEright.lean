/-
  The walks of within, Right, cut, numbers, taker, number and text.
-/
import Derived.Test.YtlfmpoinjbmjoaaGreatDoorEbase
import Derived.Test.YtlfmpoinjbmjoaaGreatDoorTright
namespace Go.Proofs.YtlfmpoinjbmjoaaGreatDoor
open Go.ChangeShapes Go.WideShapes Go.ChangeAt Go.RowKit

theorem within_yes (n a b : Int) (w : World) (h : a ≤ n ∧ n ≤ b) : Calls Tryz.prog 133 #[.int .i64 n, .int .i64 a, .int .i64 b] w fun e w' => e = .returned (.bool true) ∧ w = w' := by
  obtain ⟨h1, h2⟩ := h
  go_enter Tryz.func133, Tryz.ntmps133
  go_wp2
  go_ret
  exact ⟨rfl, rfl⟩
theorem within_no (n a b : Int) (w : World) (h : ¬ (a ≤ n ∧ n ≤ b)) : Calls Tryz.prog 133 #[.int .i64 n, .int .i64 a, .int .i64 b] w fun e w' => e = .returned (.bool false) ∧ w = w' := by
  by_cases h1 : a ≤ n
  · have h2 : ¬ n ≤ b := fun h2 => h ⟨h1, h2⟩
    clear h
    go_enter Tryz.func133, Tryz.ntmps133
    go_wp2
    go_ret
    exact ⟨rfl, rfl⟩
  · clear h
    go_enter Tryz.func133, Tryz.ntmps133
    go_wp2
    go_ret
    exact ⟨rfl, rfl⟩

theorem right_false (e : Ev.E) (h : ¬ ((0 ≤ e.o ∧ e.o ≤ 1099511627776) ∧ (1 ≤ e.s ∧ e.s ≤ 1099511627776) ∧ (0 ≤ e.d ∧ e.d ≤ 1000) ∧ e.l.size ≤ 64 ∧ Tp.right e.t.data.toList = true)) : Ev.right e = false := by
  rw [← Bool.not_eq_true, Ev.right_iff]; exact h

set_option maxHeartbeats 400000 in
theorem evright_any (e : Ev.E) (w : World) (hf : Fit e) : Calls Tryz.prog 143 #[evv e] w fun r w' => r = .returned (.bool (Ev.right e)) ∧ Kept w w' := by
  obtain ⟨o0, o1, s0, s1, ht, hl, d0, d1⟩ := hf
  unfold evv
  by_cases h1 : 0 ≤ e.o ∧ e.o ≤ 1099511627776
  · by_cases h2 : 1 ≤ e.s ∧ e.s ≤ 1099511627776
    · by_cases h3 : 0 ≤ e.d ∧ e.d ≤ 1000
      · by_cases h4 : e.l.size ≤ 64
        · have HR : Hid (Ev.right e = Tp.right e.t.data.toList) := by
            show _ = _
            unfold Ev.right
            simp [h1, h2, h3, h4]
          go_enter Tryz.func143, Tryz.ntmps143
          go_wp2_with fail
          refine (within_yes _ _ _ _ h1).mono ?_
          rintro r w1 ⟨rfl, rfl⟩
          go_wp2_with fail
          refine (within_yes _ _ _ _ h2).mono ?_
          rintro r w1 ⟨rfl, rfl⟩
          go_wp2_with fail
          refine (within_yes _ _ _ _ h3).mono ?_
          rintro r w1 ⟨rfl, rfl⟩
          go_wp2_with fail
          refine (right_any _ _ (by omega)).mono ?_
          rintro r w1 ⟨rfl, k1⟩
          generalize Tp.right e.t.data.toList = B at HR ⊢
          cases B
          all_goals
            go_wp2
            go_ret
            exact ⟨by rw [HR.out]; rfl, (Kept.alloc (Kept.refl w) _).trans k1⟩
        · have HR := Lib.hid (right_false e (fun h => h4 h.2.2.2.1))
          go_enter Tryz.func143, Tryz.ntmps143
          go_wp2_with fail
          refine (within_yes _ _ _ _ h1).mono ?_
          rintro r w1 ⟨rfl, rfl⟩
          go_wp2_with fail
          refine (within_yes _ _ _ _ h2).mono ?_
          rintro r w1 ⟨rfl, rfl⟩
          go_wp2_with fail
          refine (within_yes _ _ _ _ h3).mono ?_
          rintro r w1 ⟨rfl, rfl⟩
          go_wp2
          go_ret
          exact ⟨by rw [HR.out]; rfl, Kept.alloc (Kept.refl w) _⟩
      · have HR := Lib.hid (right_false e (fun h => h3 h.2.2.1))
        go_enter Tryz.func143, Tryz.ntmps143
        go_wp2_with fail
        refine (within_yes _ _ _ _ h1).mono ?_
        rintro r w1 ⟨rfl, rfl⟩
        go_wp2_with fail
        refine (within_yes _ _ _ _ h2).mono ?_
        rintro r w1 ⟨rfl, rfl⟩
        go_wp2_with fail
        refine (within_no _ _ _ _ h3).mono ?_
        rintro r w1 ⟨rfl, rfl⟩
        go_wp2
        go_ret
        exact ⟨by rw [HR.out]; rfl, Kept.alloc (Kept.refl w) _⟩
    · have HR := Lib.hid (right_false e (fun h => h2 h.2.1))
      go_enter Tryz.func143, Tryz.ntmps143
      go_wp2_with fail
      refine (within_yes _ _ _ _ h1).mono ?_
      rintro r w1 ⟨rfl, rfl⟩
      go_wp2_with fail
      refine (within_no _ _ _ _ h2).mono ?_
      rintro r w1 ⟨rfl, rfl⟩
      go_wp2
      go_ret
      exact ⟨by rw [HR.out]; rfl, Kept.alloc (Kept.refl w) _⟩
  · have HR := Lib.hid (right_false e (fun h => h1 h.1))
    go_enter Tryz.func143, Tryz.ntmps143
    go_wp2_with fail
    refine (within_no _ _ _ _ h1).mono ?_
    rintro r w1 ⟨rfl, rfl⟩
    go_wp2
    go_ret
    exact ⟨by rw [HR.out]; rfl, Kept.alloc (Kept.refl w) _⟩

theorem infoPtrs : (Tryz.prog.info? 160).map (fun i => (i.zero, i.size, i.bytes)) = some (some (.agg #[.pointer none, .pointer none, .pointer none]), 3, 24) := by kernel_rfl
theorem zeroPtrs (w : World) : (zeroValue 160).run Tryz.prog w = .ok (.agg #[.pointer none, .pointer none, .pointer none]) w := by
  obtain ⟨i0, hi, hz0, hz1, hz2⟩ := info_parts infoPtrs
  simp [zeroValue, typeInfo, hi, hz0]

set_option maxHeartbeats 1000000 in
theorem numbers_any (g : Nat) (w : World) (v : Value) (hc : w.cell? ⟨g, 0, none⟩ = some v) : Calls Tryz.prog 145 #[.pointer (some ⟨g, 0, none⟩)] w fun r w' =>
    r = .returned (.agg #[.pointer (some ⟨g, 0, none⟩), .pointer (some ⟨g, 1, none⟩), .pointer (some ⟨g, 4, none⟩)]) ∧ Kept w w' := by
  have hz := zeroPtrs
  have hlt := World.block_lt_of_cell? w _ hc
  go_enter Tryz.func145, Tryz.ntmps145
  go_wp2
  go_region
  all_goals go_wp2
  all_goals exact bodyPost_ret (v := .agg #[.pointer (some ⟨g, 0, none⟩), .pointer (some ⟨g, 1, none⟩), .pointer (some ⟨g, 4, none⟩)]) (by simp [results, Tryz.f145, go_sem]) rfl ⟨rfl, (Kept.alloc (Kept.refl w) _).drew⟩

set_option maxHeartbeats 400000 in
theorem taker_any (s : ByteArray) (a : Int) (w : World) : Calls Tryz.prog 131 #[.string s, .int .i64 a] w fun r w' =>
    r = .returned (.func (.func 134) #[] #[.pointer (some ⟨w.heap.size + 2, 0, none⟩), .pointer (some ⟨w.heap.size, 0, none⟩), .pointer (some ⟨w.heap.size + 1, 0, none⟩)]) ∧
      w' = ((w.alloc (.cells #[.string s] 9)).alloc (.cells #[.int .i64 a] 3)).alloc (.cells #[.int .i64 0] 34) := by
  have hmf : ∀ (fn : Fn) (first cap : Array Value) (w : World), (Instr.makeFunc fn first cap).run Tryz.prog w = .ok (.func fn first cap) w := fun _ _ _ _ => rfl
  go_enter Tryz.func131, Tryz.ntmps131
  go_wp2
  go_ret
  exact ⟨rfl, rfl⟩
set_option maxHeartbeats 400000 in
theorem number_any (g off : Nat) (w : World) : Calls Tryz.prog 132 #[.pointer (some ⟨g, off, none⟩)] w fun r w' =>
    r = .returned (.func (.func 135) #[] #[.pointer (some ⟨w.heap.size, 0, none⟩)]) ∧ w' = w.alloc (.cells #[.pointer (some ⟨g, off, none⟩)] 90) := by
  have hmf : ∀ (fn : Fn) (first cap : Array Value) (w : World), (Instr.makeFunc fn first cap).run Tryz.prog w = .ok (.func fn first cap) w := fun _ _ _ _ => rfl
  go_enter Tryz.func132, Tryz.ntmps132
  go_wp2
  go_ret
  exact ⟨rfl, rfl⟩
set_option maxHeartbeats 400000 in
theorem text_any' (g off : Nat) (w : World) : Calls Tryz.prog 146 #[.pointer (some ⟨g, off, none⟩)] w fun r w' =>
    r = .returned (.func (.func 148) #[] #[.pointer (some ⟨w.heap.size, 0, none⟩)]) ∧ w' = w.alloc (.cells #[.pointer (some ⟨g, off, none⟩)] 164) := by
  have hmf : ∀ (fn : Fn) (first cap : Array Value) (w : World), (Instr.makeFunc fn first cap).run Tryz.prog w = .ok (.func fn first cap) w := fun _ _ _ _ => rfl
  go_enter Tryz.func146, Tryz.ntmps146
  go_wp2
  go_ret
  exact ⟨rfl, rfl⟩
end Go.Proofs.YtlfmpoinjbmjoaaGreatDoor
