/-
  The document's own: the walks of rivuletref06.in, Right, Same, Age.
-/
import Derived.Test.YtbenjenifklejaaDoorEage
import Derived.Test.YtbenjenifklejaaDoorTref2
namespace Go.Proofs.YtbenjenifklejaaDoor
open Go.ChangeShapes Go.WideShapes Go.ChangeAt Go.RowKit

theorem rin_yes (n a b : Int) (w : World) (h : a ≤ n ∧ n ≤ b) : Calls Tryd.prog 33 #[.int .i64 n, .int .i64 a, .int .i64 b] w fun e w' => e = .returned (.bool true) ∧ w = w' := by
  obtain ⟨h1, h2⟩ := h
  go_enter Tryd.func33, Tryd.ntmps33
  go_wp2
  go_ret
  exact ⟨rfl, rfl⟩
theorem rin_no (n a b : Int) (w : World) (h : ¬ (a ≤ n ∧ n ≤ b)) : Calls Tryd.prog 33 #[.int .i64 n, .int .i64 a, .int .i64 b] w fun e w' => e = .returned (.bool false) ∧ w = w' := by
  by_cases h1 : a ≤ n
  · have h2 : ¬ n ≤ b := fun h2 => h ⟨h1, h2⟩
    clear h
    go_enter Tryd.func33, Tryd.ntmps33
    go_wp2
    go_ret
    exact ⟨rfl, rfl⟩
  · clear h
    go_enter Tryd.func33, Tryd.ntmps33
    go_wp2
    go_ret
    exact ⟨rfl, rfl⟩


set_option maxHeartbeats 400000 in
theorem rright_ev (e : Ev.E) (w : World) (hf : Fit e) (ht : e.t.size ≤ 1000000) : Calls Tryd.prog 12 #[evv e] w fun r w' => r = .returned (.bool (Ev.right e)) ∧ Kept w w' := by
  obtain ⟨o0, o1, s0, s1, _, hl, d0, d1⟩ := hf
  unfold evv
  by_cases h1 : 0 ≤ e.o ∧ e.o ≤ 1099511627776
  · by_cases h2 : 1 ≤ e.s ∧ e.s ≤ 1099511627776
    · by_cases h3 : Tp.right e.t.data.toList = true
      · have H3 := Lib.hid h3
        clear h3
        by_cases h4 : e.l.size ≤ 64
        · by_cases h5 : 0 ≤ e.d ∧ e.d ≤ 1000
          · have HR := Lib.hid ((Ev.right_iff e).2 ⟨h1, h2, h5, h4, H3.out⟩)
            go_enter Tryd.func12, Tryd.ntmps12
            go_wp2_with fail
            refine (rin_yes _ _ _ _ h1).mono ?_
            rintro r w1 ⟨rfl, rfl⟩
            go_wp2_with fail
            refine (rin_yes _ _ _ _ h2).mono ?_
            rintro r w1 ⟨rfl, rfl⟩
            go_wp2_with fail
            refine (rright_any _ _ ht).mono ?_
            rintro r w2 ⟨rfl, k2⟩
            rw [H3.out]
            have K2 := Lib.hid k2
            have c3 := ((Blk.made w (evc e) 23).kept k2).cell 3
            have c4 := ((Blk.made w (evc e) 23).kept k2).cell 4
            simp only [evc, List.getElem?_toArray, List.getElem?_cons_zero, List.getElem?_cons_succ] at c3 c4
            clear k2
            go_wp2_with fail
            refine (rin_yes _ _ _ _ h5).mono ?_
            rintro r w1 ⟨rfl, rfl⟩
            go_wp2
            go_ret
            exact ⟨by rw [HR.out]; rfl, (Kept.alloc (Kept.refl w) _).trans K2.out⟩
          · have HR := Lib.hid (right_false e (fun h => h5 h.2.2.1))
            go_enter Tryd.func12, Tryd.ntmps12
            go_wp2_with fail
            refine (rin_yes _ _ _ _ h1).mono ?_
            rintro r w1 ⟨rfl, rfl⟩
            go_wp2_with fail
            refine (rin_yes _ _ _ _ h2).mono ?_
            rintro r w1 ⟨rfl, rfl⟩
            go_wp2_with fail
            refine (rright_any _ _ ht).mono ?_
            rintro r w2 ⟨rfl, k2⟩
            rw [H3.out]
            have K2 := Lib.hid k2
            have c3 := ((Blk.made w (evc e) 23).kept k2).cell 3
            have c4 := ((Blk.made w (evc e) 23).kept k2).cell 4
            simp only [evc, List.getElem?_toArray, List.getElem?_cons_zero, List.getElem?_cons_succ] at c3 c4
            clear k2
            go_wp2_with fail
            refine (rin_no _ _ _ _ h5).mono ?_
            rintro r w1 ⟨rfl, rfl⟩
            go_wp2
            go_ret
            exact ⟨by rw [HR.out]; rfl, (Kept.alloc (Kept.refl w) _).trans K2.out⟩
        · have HR := Lib.hid (right_false e (fun h => h4 h.2.2.2.1))
          go_enter Tryd.func12, Tryd.ntmps12
          go_wp2_with fail
          refine (rin_yes _ _ _ _ h1).mono ?_
          rintro r w1 ⟨rfl, rfl⟩
          go_wp2_with fail
          refine (rin_yes _ _ _ _ h2).mono ?_
          rintro r w1 ⟨rfl, rfl⟩
          go_wp2_with fail
          refine (rright_any _ _ ht).mono ?_
          rintro r w2 ⟨rfl, k2⟩
          rw [H3.out]
          have K2 := Lib.hid k2
          have c3 := ((Blk.made w (evc e) 23).kept k2).cell 3
          simp only [evc, List.getElem?_toArray, List.getElem?_cons_zero, List.getElem?_cons_succ] at c3
          clear k2
          go_wp2
          go_ret
          exact ⟨by rw [HR.out]; rfl, (Kept.alloc (Kept.refl w) _).trans K2.out⟩
      · have HR := Lib.hid (right_false e (fun h => h3 h.2.2.2.2))
        rw [Bool.not_eq_true] at h3
        have H3 := Lib.hid h3
        clear h3
        go_enter Tryd.func12, Tryd.ntmps12
        go_wp2_with fail
        refine (rin_yes _ _ _ _ h1).mono ?_
        rintro r w1 ⟨rfl, rfl⟩
        go_wp2_with fail
        refine (rin_yes _ _ _ _ h2).mono ?_
        rintro r w1 ⟨rfl, rfl⟩
        go_wp2_with fail
        refine (rright_any _ _ ht).mono ?_
        rintro r w2 ⟨rfl, k2⟩
        rw [H3.out]
        go_wp2
        go_ret
        exact ⟨by rw [HR.out]; rfl, (Kept.alloc (Kept.refl w) _).trans k2⟩
    · have HR := Lib.hid (right_false e (fun h => h2 h.2.1))
      go_enter Tryd.func12, Tryd.ntmps12
      go_wp2_with fail
      refine (rin_yes _ _ _ _ h1).mono ?_
      rintro r w1 ⟨rfl, rfl⟩
      go_wp2_with fail
      refine (rin_no _ _ _ _ h2).mono ?_
      rintro r w1 ⟨rfl, rfl⟩
      go_wp2
      go_ret
      exact ⟨by rw [HR.out]; rfl, Kept.alloc (Kept.refl w) _⟩
  · have HR := Lib.hid (right_false e (fun h => h1 h.1))
    go_enter Tryd.func12, Tryd.ntmps12
    go_wp2_with fail
    refine (rin_no _ _ _ _ h1).mono ?_
    rintro r w1 ⟨rfl, rfl⟩
    go_wp2
    go_ret
    exact ⟨by rw [HR.out]; rfl, Kept.alloc (Kept.refl w) _⟩

set_option maxHeartbeats 400000 in
set_option maxRecDepth 100000 in
theorem rsame_ev (a b : Ev.E) (w : World) : Calls Tryd.prog 20 #[evv a, evv b] w fun r w' => r = .returned (.bool (Ev.same a b)) ∧ Kept w w' := by
  obtain ⟨ao, as_, at_, al, ad⟩ := a
  obtain ⟨bo, bs, bt, bl, bd⟩ := b
  unfold evv
  simp only
  have kk : ∀ o p : Obj, Kept w ((w.alloc o).alloc p) := fun o p => Kept.alloc (Kept.alloc (Kept.refl w) _) _
  have KK := Lib.hid kk
  clear kk
  by_cases h1 : ao = bo
  · subst h1
    by_cases h2 : as_ = bs
    · subst h2
      by_cases h3 : at_ = bt
      · subst h3
        by_cases h4 : al = bl
        · subst h4
          go_enter Tryd.func20, Tryd.ntmps20
          go_wp2
          go_ret
          exact ⟨by simp [Ev.same], KK.out _ _⟩
        · have e4 := str_ne h4
          have H4 := Lib.hid h4
          clear h4
          go_enter Tryd.func20, Tryd.ntmps20
          go_wp2
          go_ret
          exact ⟨by simp [Ev.same, H4.out], KK.out _ _⟩
      · have e3 := str_ne h3
        have H3 := Lib.hid h3
        clear h3
        go_enter Tryd.func20, Tryd.ntmps20
        go_wp2
        go_ret
        exact ⟨by simp [Ev.same, H3.out], KK.out _ _⟩
    · have e2 : (as_ == bs) = false := by simpa using h2
      have H2 := Lib.hid h2
      clear h2
      go_enter Tryd.func20, Tryd.ntmps20
      go_wp2
      go_ret
      exact ⟨by simp [Ev.same, H2.out], KK.out _ _⟩
  · have e1 : (ao == bo) = false := by simpa using h1
    have H1 := Lib.hid h1
    clear h1
    go_enter Tryd.func20, Tryd.ntmps20
    go_wp2
    go_ret
    exact ⟨by simp [Ev.same, H1.out], KK.out _ _⟩

theorem made2 (w : World) (o : Obj) (E : Ev.E) : Blk ((w.alloc o).alloc (.cells (evc E) 23)) (w.heap.size + 1) (evc E) 23 := by
  have := Blk.made (w.alloc o) (evc E) 23
  rwa [World.size_alloc] at this
theorem ret_rage (R : Nat) (tmps : Array Value) (W : World) (E : Ev.E) (h4 : tmps[4]?.getD undef = .pointer (some ⟨R, 0, none⟩)) (hb : Blk W R (evc E) 23) :
    (results Tryd.f18 tmps).run Tryd.prog W = .ok (evv E) W := by
  unfold evc at hb
  have c0 := hb.cell 0
  have c1 := hb.cell 1
  have c2 := hb.cell 2
  have c3 := hb.cell 3
  have c4 := hb.cell 4
  simp only [List.getElem?_toArray, List.getElem?_cons_zero, List.getElem?_cons_succ] at c0 c1 c2 c3 c4
  simp [results, Tryd.f18, go_sem, h4, c0, c1, c2, c3, c4, evv]

set_option maxHeartbeats 1000000 in
set_option maxRecDepth 100000 in
theorem rage_any (e : Ev.E) (n : Int) (w : World) (hf : Fit e) (h1 : -9223372036854775808 ≤ n) (h2 : n ≤ 9223372036854775807) :
    Calls Tryd.prog 18 #[evv e, .int .i64 n] w fun r w' => r = .returned (evv (Ev.age e n)) ∧ Kept w w' := by
  obtain ⟨o0, o1, s0, s1, ht, hl, d0, d1⟩ := hf
  unfold evv
  by_cases hn : n ≤ 0
  · have HA : Hid (Ev.age e n = e) := by show _ = _; rw [Ev.age, if_pos hn]
    go_enter Tryd.func18, Tryd.ntmps18
    go_wp2
    refine bodyPost_ret (ret_rage (w.heap.size + 1) _ _ e rfl (made2 w _ e)) rfl ⟨by rw [HA.out]; rfl, Kept.alloc (Kept.alloc (Kept.refl w) _) _⟩
  · by_cases hd : e.d ≤ n
    · have HA : Hid (Ev.age e n = { e with d := 0 }) := by show _ = _; rw [Ev.age, if_neg hn, if_pos hd]
      go_enter Tryd.func18, Tryd.ntmps18
      go_wp2
      refine bodyPost_ret (ret_rage (w.heap.size + 1) _ _ { e with d := 0 } rfl (made2 w _ { e with d := 0 })) rfl ⟨by rw [HA.out]; rfl, Kept.alloc (Kept.alloc (Kept.refl w) _) _⟩
    · have HA : Hid (Ev.age e n = { e with d := e.d - n }) := by show _ = _; rw [Ev.age, if_neg hn, if_neg hd]
      go_enter Tryd.func18, Tryd.ntmps18
      go_wp2
      refine bodyPost_ret (ret_rage (w.heap.size + 1) _ _ { e with d := e.d - n } rfl (made2 w _ { e with d := e.d - n })) rfl ⟨by rw [HA.out]; rfl, Kept.alloc (Kept.alloc (Kept.refl w) _) _⟩
end Go.Proofs.YtbenjenifklejaaDoor
