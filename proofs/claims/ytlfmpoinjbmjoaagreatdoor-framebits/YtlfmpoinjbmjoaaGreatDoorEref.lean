/-
  The document's own: the walks of rivuletref06.in, Right, Same, Age.
-/
import Derived.Test.YtlfmpoinjbmjoaaGreatDoorEage
import Derived.Test.YtlfmpoinjbmjoaaGreatDoorTref2
namespace Go.Proofs.YtlfmpoinjbmjoaaGreatDoor
open Go.ChangeShapes Go.WideShapes Go.ChangeAt Go.RowKit

theorem rin_yes (n a b : Int) (w : World) (h : a ≤ n ∧ n ≤ b) : Calls Tryz.prog 49 #[.int .i64 n, .int .i64 a, .int .i64 b] w fun e w' => e = .returned (.bool true) ∧ w = w' := by
  obtain ⟨h1, h2⟩ := h
  go_enter Tryz.func49, Tryz.ntmps49
  go_wp2
  go_ret
  exact ⟨rfl, rfl⟩
theorem rin_no (n a b : Int) (w : World) (h : ¬ (a ≤ n ∧ n ≤ b)) : Calls Tryz.prog 49 #[.int .i64 n, .int .i64 a, .int .i64 b] w fun e w' => e = .returned (.bool false) ∧ w = w' := by
  by_cases h1 : a ≤ n
  · have h2 : ¬ n ≤ b := fun h2 => h ⟨h1, h2⟩
    clear h
    go_enter Tryz.func49, Tryz.ntmps49
    go_wp2
    go_ret
    exact ⟨rfl, rfl⟩
  · clear h
    go_enter Tryz.func49, Tryz.ntmps49
    go_wp2
    go_ret
    exact ⟨rfl, rfl⟩


set_option maxHeartbeats 400000 in
theorem rright_ev (e : Ev.E) (w : World) (hf : Fit e) (ht : e.t.size ≤ 1000000) : Calls Tryz.prog 27 #[evv e] w fun r w' => r = .returned (.bool (Ev.right e)) ∧ Kept w w' := by
  obtain ⟨o0, o1, s0, s1, _, hl, d0, d1⟩ := hf
  unfold evv
  by_cases h1 : 0 ≤ e.o ∧ e.o ≤ 1099511627776
  · by_cases h2 : 1 ≤ e.s ∧ e.s ≤ 1099511627776
    · by_cases h3 : Tp.right e.t.data.toList = true
      · have H3 := Lib.hid h3
        clear h3
        by_cases h4 : e.l.size ≤ 64
        · by_cases h5 : 0 ≤ e.d ∧ e.d ≤ 1000
          · have HR := Lib.hid ((Ev.right_iff e).2 ⟨h1, h2, h5, h4, H3.out⟩)
            go_enter Tryz.func27, Tryz.ntmps27
            go_wp2_with fail
            refine (rin_yes _ _ _ _ h1).mono ?_
            rintro r w1 ⟨rfl, rfl⟩
            go_wp2_with fail
            refine (rin_yes _ _ _ _ h2).mono ?_
            rintro r w1 ⟨rfl, rfl⟩
            go_wp2_with fail
            refine (rright_any _ _ ht).mono ?_
            rintro r w2 ⟨rfl, k2⟩
            rw [H3.out]
            have K2 := Lib.hid k2
            have c3 := ((Blk.made w (evc e) 23).kept k2).cell 3
            have c4 := ((Blk.made w (evc e) 23).kept k2).cell 4
            simp only [evc, List.getElem?_toArray, List.getElem?_cons_zero, List.getElem?_cons_succ] at c3 c4
            clear k2
            go_wp2_with fail
            refine (rin_yes _ _ _ _ h5).mono ?_
            rintro r w1 ⟨rfl, rfl⟩
            go_wp2
            go_ret
            exact ⟨by rw [HR.out]; rfl, (Kept.alloc (Kept.refl w) _).trans K2.out⟩
          · have HR := Lib.hid (right_false e (fun h => h5 h.2.2.1))
            go_enter Tryz.func27, Tryz.ntmps27
            go_wp2_with fail
            refine (rin_yes _ _ _ _ h1).mono ?_
            rintro r w1 ⟨rfl, rfl⟩
            go_wp2_with fail
            refine (rin_yes _ _ _ _ h2).mono ?_
            rintro r w1 ⟨rfl, rfl⟩
            go_wp2_with fail
            refine (rright_any _ _ ht).mono ?_
            rintro r w2 ⟨rfl, k2⟩
            rw [H3.out]
            have K2 := Lib.hid k2
            have c3 := ((Blk.made w (evc e) 23).kept k2).cell 3
            have c4 := ((Blk.made w (evc e) 23).kept k2).cell 4
            simp only [evc, List.getElem?_toArray, List.getElem?_cons_zero, List.getElem?_cons_succ] at c3 c4
            clear k2
            go_wp2_with fail
            refine (rin_no _ _ _ _ h5).mono ?_
            rintro r w1 ⟨rfl, rfl⟩
            go_wp2
            go_ret
            exact ⟨by rw [HR.out]; rfl, (Kept.alloc (Kept.refl w) _).trans K2.out⟩
        · have HR := Lib.hid (right_false e (fun h => h4 h.2.2.2.1))
          go_enter Tryz.func27, Tryz.ntmps27
          go_wp2_with fail
          refine (rin_yes _ _ _ _ h1).mono ?_
          rintro r w1 ⟨rfl, rfl⟩
          go_wp2_with fail
          refine (rin_yes _ _ _ _ h2).mono ?_
          rintro r w1 ⟨rfl, rfl⟩
          go_wp2_with fail
          refine (rright_any _ _ ht).mono ?_
          rintro r w2 ⟨rfl, k2⟩
          rw [H3.out]
          have K2 := Lib.hid k2
          have c3 := ((Blk.made w (evc e) 23).kept k2).cell 3
          simp only [evc, List.getElem?_toArray, List.getElem?_cons_zero, List.getElem?_cons_succ] at c3
          clear k2
          go_wp2
          go_ret
          exact ⟨by rw [HR.out]; rfl, (Kept.alloc (Kept.refl w) _).trans K2.out⟩
      · have HR := Lib.hid (right_false e (fun h => h3 h.2.2.2.2))
        rw [Bool.not_eq_true] at h3
        have H3 := Lib.hid h3
        clear h3
        go_enter Tryz.func27, Tryz.ntmps27
        go_wp2_with fail
        refine (rin_yes _ _ _ _ h1).mono ?_
        rintro r w1 ⟨rfl, rfl⟩
        go_wp2_with fail
        refine (rin_yes _ _ _ _ h2).mono ?_
        rintro r w1 ⟨rfl, rfl⟩
        go_wp2_with fail
        refine (rright_any _ _ ht).mono ?_
        rintro r w2 ⟨rfl, k2⟩
        rw [H3.out]
        go_wp2
        go_ret
        exact ⟨by rw [HR.out]; rfl, (Kept.alloc (Kept.refl w) _).trans k2⟩
    · have HR := Lib.hid (right_false e (fun h => h2 h.2.1))
      go_enter Tryz.func27, Tryz.ntmps27
      go_wp2_with fail
      refine (rin_yes _ _ _ _ h1).mono ?_
      rintro r w1 ⟨rfl, rfl⟩
      go_wp2_with fail
      refine (rin_no _ _ _ _ h2).mono ?_
      rintro r w1 ⟨rfl, rfl⟩
      go_wp2
      go_ret
      exact ⟨by rw [HR.out]; rfl, Kept.alloc (Kept.refl w) _⟩
  · have HR := Lib.hid (right_false e (fun h => h1 h.1))
    go_enter Tryz.func27, Tryz.ntmps27
    go_wp2_with fail
    refine (rin_no _ _ _ _ h1).mono ?_
    rintro r w1 ⟨rfl, rfl⟩
    go_wp2
    go_ret
    exact ⟨by rw [HR.out]; rfl, Kept.alloc (Kept.refl w) _⟩

end Go.Proofs.YtlfmpoinjbmjoaaGreatDoor
