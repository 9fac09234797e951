/-
  The walk of the law EventAges.
-/
import Derived.Test.YtbenjenifklejaaDoorLesame
namespace Go.Proofs.YtbenjenifklejaaDoor
open Go.ChangeShapes Go.WideShapes Go.ChangeAt Go.RowKit

theorem age_fit {e : Ev.E} (h : Fit e) (n : Int) (_h0 : 0 ≤ n) : Fit (Ev.age e n) ∧ (Ev.age e n).t = e.t ∧ (Ev.age e n).l = e.l ∧ (Ev.age e n).o = e.o ∧ (Ev.age e n).s = e.s := by
  unfold Ev.age
  split
  · exact ⟨h, rfl, rfl, rfl, rfl⟩
  · split
    · exact ⟨⟨h.o0, h.o1, h.s0, h.s1, h.t, h.l, by simp only; omega, by simp only; omega⟩, rfl, rfl, rfl, rfl⟩
    · have := h.d0
      have := h.d1
      exact ⟨⟨h.o0, h.o1, h.s0, h.s1, h.t, h.l, by simp only; omega, by simp only; omega⟩, rfl, rfl, rfl, rfl⟩
theorem age_add (e : Ev.E) (n m : Int) (h0 : 0 ≤ n) (h1 : 0 ≤ m) (hd : 0 ≤ e.d) : Ev.age (Ev.age e n) m = Ev.age e (n + m) := by
  obtain ⟨o, s, t, l, d⟩ := e
  simp only at hd
  unfold Ev.age
  simp only
  by_cases hn : n ≤ 0
  · rw [if_pos hn]
    simp only
    rw [show n + m = m by omega]
  · rw [if_neg hn, if_neg (show ¬ n + m ≤ 0 by omega)]
    by_cases hdn : d ≤ n
    · rw [if_pos hdn, if_pos (show d ≤ n + m by omega)]
      simp only
      by_cases hm : m ≤ 0
      · rw [if_pos hm]
      · rw [if_neg hm, if_pos (by omega)]
    · rw [if_neg hdn]
      simp only
      by_cases hm : m ≤ 0
      · rw [if_pos hm, if_neg (by omega)]
        have : m = 0 := by omega
        simp [this]
      · rw [if_neg hm]
        by_cases h2 : d - n ≤ m
        · rw [if_pos h2, if_pos (by omega)]
        · rw [if_neg h2, if_neg (by omega), show d - n - m = d - (n + m) by omega]
theorem age_right (e : Ev.E) (n : Int) (hr : Ev.right e = true) : Ev.right (Ev.age e n) = true := by
  rw [Ev.right_iff] at hr ⊢
  unfold Ev.age
  split
  · exact hr
  · split
    · exact ⟨hr.1, hr.2.1, ⟨by simp only; omega, by simp only; omega⟩, hr.2.2.2⟩
    · exact ⟨hr.1, hr.2.1, ⟨by simp only; omega, by simp only; omega⟩, hr.2.2.2⟩
/-- what the ticks left become -/
theorem age_ticks (e : Ev.E) (n : Int) (h0 : 0 ≤ n) (hd : 0 ≤ e.d) : (Ev.age e n).d ≤ e.d ∧ 0 ≤ (Ev.age e n).d ∧ ((Ev.age e n).d = e.d ↔ (n = 0 ∨ e.d = 0)) := by
  unfold Ev.age
  by_cases hn : n ≤ 0
  · rw [if_pos hn]; exact ⟨by omega, hd, by constructor <;> intro <;> omega⟩
  · rw [if_neg hn]
    by_cases h : e.d ≤ n
    · rw [if_pos h]; exact ⟨hd, by simp only; omega, by simp only; constructor <;> intro <;> omega⟩
    · rw [if_neg h]; exact ⟨by simp only; omega, by simp only; omega, by simp only; constructor <;> intro <;> omega⟩

set_option maxHeartbeats 2000000 in
set_option maxRecDepth 100000 in
theorem eages_walk (a : Ev.E) (n m : Int) (w : World) (ha : Came a) (n1 : 0 ≤ n) (n2 : n ≤ 65535) (m1 : 0 ≤ m) (m2 : m ≤ 65535) (hT : Tab w) (hP : P10 w) (hF : Fixed) :
    Calls Tryd.prog 7 #[evv a, .int .u16 n, .int .u16 m] w fun e w' => e = .returned (.bool true) ∧ Kept w w' := by
  have HA := Lib.hid ha
  have HT := Lib.hid hT
  have HP := Lib.hid hP
  have HF := Lib.hid hF
  obtain ⟨fa, ta, la⟩ := cutE_fit ha
  have ca := cut_ev a
  obtain ⟨A, hAe⟩ : ∃ A, A = cutE a := ⟨_, rfl⟩
  rw [← hAe] at fa ta la ca
  have FA := Lib.hid fa
  have CA := Lib.hid ca
  clear hAe ca fa ha hT hP hF
  unfold evv
  go_enter Tryd.func7, Tryd.ntmps7
  go_wp2_with fail
  have bx := Blk.made w (evc a) 23
  have k0 : Kept w (w.alloc (.cells (evc a) 23)) := (Kept.refl w).alloc _
  refine (CA.out _ HA.out).mono ?_
  rintro r w1 ⟨rfl, k1⟩
  have bx1 := bx.kept k1
  have k01 := k0.trans k1
  have x0 := bx1.cell 0
  have x1 := bx1.cell 1
  have x2 := bx1.cell 2
  have x3 := bx1.cell 3
  have x4 := bx1.cell 4
  have xf0 := bx1.frozen 0
  have xf1 := bx1.frozen 1
  have xf2 := bx1.frozen 2
  have xf3 := bx1.frozen 3
  have xf4 := bx1.frozen 4
  simp only [evc, List.getElem?_toArray, List.getElem?_cons_zero, List.getElem?_cons_succ] at x0 x1 x2 x3 x4
  have BX := Lib.hid bx1
  clear bx bx1 k0 k1
  unfold evv
  go_wp2_with fail
  have b2 := set_ev w.heap.size w1 a A BX.out
  have k2 := set_kept w.heap.size w w1 (.int .i64 A.o) (.int .i64 A.s) (.string A.t) (.string A.l) (.int .i64 A.d) k01 (Nat.le_refl _)
  obtain ⟨w2, hw2⟩ : ∃ w2, w2 = ((((w1.setCell ⟨w.heap.size, 0, none⟩ (.int .i64 A.o)).setCell ⟨w.heap.size, 1, none⟩ (.int .i64 A.s)).setCell ⟨w.heap.size, 2, none⟩ (.string A.t)).setCell ⟨w.heap.size, 3, none⟩ (.string A.l)).setCell ⟨w.heap.size, 4, none⟩ (.int .i64 A.d) := ⟨_, rfl⟩
  rw [← hw2] at b2 k2 ⊢
  clear hw2 BX k01 x0 x1 x2 x3 x4 xf0 xf1 xf2 xf3 xf4
  obtain ⟨B, hB⟩ : ∃ B, B = Ev.age A n := ⟨_, rfl⟩
  have fb := (age_fit FA.out n n1).1
  rw [← hB] at fb
  have FB := Lib.hid fb
  have HB := Lib.hid hB
  have cb := fun W => age_any A n W FA.out (by omega) (by omega)
  rw [← hB] at cb
  unfold evv at cb
  have CB := Lib.hid cb
  obtain ⟨C, hC⟩ : ∃ C, C = Ev.age B m := ⟨_, rfl⟩
  have cc := fun W => age_any B m W fb (by omega) (by omega)
  rw [← hC] at cc
  unfold evv at cc
  have CC := Lib.hid cc
  have HC := Lib.hid hC
  clear cb cc hB hC fb
  refine (CB.out _).mono ?_
  rintro r w3 ⟨rfl, k3⟩
  have b3 := (b2.kept k3).alloc (.cells (evc B) 23)
  have c3 := Blk.made w3 (evc B) 23
  have k03 := (k2.trans k3).alloc (.cells (evc B) 23)
  clear b2 k2 k3
  go_wp2_with fail
  refine (CC.out _).mono ?_
  rintro r w4 ⟨rfl, k4⟩
  have b4 := (b3.kept k4).alloc (.cells (evc C) 23)
  have c4 := (c3.kept k4).alloc (.cells (evc C) 23)
  have d4 := Blk.made w4 (evc C) 23
  have k04 := (k03.trans k4).alloc (.cells (evc C) 23)
  have hlt : w3.heap.size < w4.heap.size := (c3.kept k4).lt
  have h0 : w.heap.size < w4.heap.size := (b3.kept k4).lt
  clear b3 c3 k03 k4
  have x0 := b4.cell 0
  have x1 := b4.cell 1
  have x2 := b4.cell 2
  have x3 := b4.cell 3
  have x4 := b4.cell 4
  simp only [evc, List.getElem?_toArray, List.getElem?_cons_zero, List.getElem?_cons_succ] at x0 x1 x2 x3 x4
  obtain ⟨w5, hw5⟩ : ∃ w5, w5 = w4.alloc (.cells #[.int .i64 C.o, .int .i64 C.s, .string C.t, .string C.l, .int .i64 C.d] 23) := ⟨_, rfl⟩
  unfold evc at b4 c4 d4 k04
  have d1 := fun W => evright_any A W FA.out
  unfold evv at d1
  have DR := Lib.hid d1
  clear d1
  go_wp2_with fail
  rw [← hw5] at b4 c4 d4 k04 ⊢
  clear x0 x1 x2 x3 x4 hw5
  refine (DR.out _).mono ?_
  rintro r w6 ⟨rfl, k6⟩
  have b6 := b4.kept k6
  have c6 := c4.kept k6
  have d6 := d4.kept k6
  have k06 := k04.trans k6
  have K6 := Lib.hid k06
  have HT6 := Lib.hid (HT.out.kept k06)
  have HP6 := Lib.hid (HP.out.kept k06)
  have x0 := b6.cell 0
  have x1 := b6.cell 1
  have x2 := b6.cell 2
  have x3 := b6.cell 3
  have x4 := b6.cell 4
  have y0 := c6.cell 0
  have y1 := c6.cell 1
  have y2 := c6.cell 2
  have y3 := c6.cell 3
  have y4 := c6.cell 4
  have z0 := d6.cell 0
  have z1 := d6.cell 1
  have z2 := d6.cell 2
  have z3 := d6.cell 3
  have z4 := d6.cell 4
  simp only [List.getElem?_toArray, List.getElem?_cons_zero, List.getElem?_cons_succ] at x0 x1 x2 x3 x4 y0 y1 y2 y3 y4 z0 z1 z2 z3 z4
  have B6 := Lib.hid b6
  clear b4 c4 d4 k04 k6 b6 c6 d6 k06
  by_cases hr : Ev.right A = true
  · rw [hr]
    have hd0 : 0 ≤ A.d := ((Ev.right_iff A).1 hr).2.2.1.1
    have hrB : Ev.right B = true := by rw [HB.out]; exact age_right A n hr
    have hsB : Ev.same A B = true := by rw [HB.out, same_comm, same_age, same_refl]
    have hCC : Ev.age A (n + m) = C := by rw [HC.out, HB.out, age_add A n m n1 m1 hd0]
    obtain ⟨g1, g2, g3⟩ := age_ticks A n n1 hd0
    rw [← HB.out] at g1 g2 g3
    have v1 := fun p : KW w6 => evright_any B p.v FB.out
    have v2 := fun p : KW w6 => same_ev A B p.v
    have v3 := fun p : KW w6 => age_any A (n + m) p.v FA.out (by omega) (by omega)
    have v4 := fun p : KW w6 => KW.fixed HF.out HT6.out HP6.out p
    simp only [hrB] at v1
    simp only [hsB] at v2
    simp only [hCC] at v3
    unfold evv at v1 v2 v3
    have D1 := Lib.hid v1
    have D2 := Lib.hid v2
    have D3 := Lib.hid v3
    have D4 := Lib.hid v4
    have i1 : IntKind.i64.wrap n = n := by simp [IntKind.wrap_i64]; omega
    have i2 : IntKind.i64.wrap m = m := by simp [IntKind.wrap_i64]; omega
    have i3 : IntKind.i64.wrap (n + m) = n + m := by simp [IntKind.wrap_i64]; omega
    have G3 := Lib.hid g3
    clear v1 v2 v3 v4 hr hrB hsB hCC g3
    have t0 := KW.cell x0
    have t1 := KW.cell x1
    have t2 := KW.cell x2
    have t3 := KW.cell x3
    have t4 := KW.cell x4
    have u0 := KW.cell y0
    have u1 := KW.cell y1
    have u2 := KW.cell y2
    have u3 := KW.cell y3
    have u4 := KW.cell y4
    have s0 := KW.cell z0
    have s1 := KW.cell z1
    have s2 := KW.cell z2
    have s3 := KW.cell z3
    have s4 := KW.cell z4
    clear x0 x1 x2 x3 x4 y0 y1 y2 y3 y4 z0 z1 z2 z3 z4
    have nn : Nonempty (KW w6) := ⟨⟨w6, Kept.refl w6⟩⟩
    go_wp2_with fail
    by_cases hn : n = 0
    · have q1 : (B.d == A.d) = true := by simpa using G3.out.2 (.inl hn)
      have q2 : (n == 0) = true := by simpa using hn
      clear hn
      refine wp_region_kept (by kernel_rfl) (by kernel_rfl) ?_
      repeat (go_big_quiet_step ((first
        | (go_at_call 11; with_reducible exact KW.calls _ (D1.out _))
        | (go_at_call 19; with_reducible exact KW.calls _ (D2.out _))
        | (go_at_call 17; with_reducible exact KW.calls _ (D3.out _))
        | (go_at_call 21; with_reducible exact KW.calls _ (D4.out _)))))
      refine wpQuiet_nil ?_
      intro w7 hw7
      have kk7 : Kept w6 w7 := by
        obtain ⟨p, rfl⟩ := hw7
        exact p.h
      clear hw7
      go_wp2
      go_ret
      exact ⟨rfl, K6.out.trans kk7⟩
    · have q2 : (n == 0) = false := by simpa using hn
      by_cases hd : A.d = 0
      · have q1 : (B.d == A.d) = true := by simpa using G3.out.2 (.inr hd)
        have q3 : (A.d == 0) = true := by simpa using hd
        clear hn hd
        refine wp_region_kept (by kernel_rfl) (by kernel_rfl) ?_
        repeat (go_big_quiet_step ((first
          | (go_at_call 11; with_reducible exact KW.calls _ (D1.out _))
          | (go_at_call 19; with_reducible exact KW.calls _ (D2.out _))
          | (go_at_call 17; with_reducible exact KW.calls _ (D3.out _))
          | (go_at_call 21; with_reducible exact KW.calls _ (D4.out _)))))
        refine wpQuiet_nil ?_
        intro w7 hw7
        have kk7 : Kept w6 w7 := by
          obtain ⟨p, rfl⟩ := hw7
          exact p.h
        clear hw7
        go_wp2
        go_ret
        exact ⟨rfl, K6.out.trans kk7⟩
      · have q1 : (B.d == A.d) = false := by
          rw [beq_eq_false_iff_ne]
          intro h
          rcases G3.out.1 h with h | h
          · exact hn h
          · exact hd h
        have q3 : (A.d == 0) = false := by simpa using hd
        clear hn hd
        refine wp_region_kept (by kernel_rfl) (by kernel_rfl) ?_
        repeat (go_big_quiet_step ((first
          | (go_at_call 11; with_reducible exact KW.calls _ (D1.out _))
          | (go_at_call 19; with_reducible exact KW.calls _ (D2.out _))
          | (go_at_call 17; with_reducible exact KW.calls _ (D3.out _))
          | (go_at_call 21; with_reducible exact KW.calls _ (D4.out _)))))
        refine wpQuiet_nil ?_
        intro w7 hw7
        have kk7 : Kept w6 w7 := by
          obtain ⟨p, rfl⟩ := hw7
          exact p.h
        clear hw7
        go_wp2
        go_ret
        exact ⟨rfl, K6.out.trans kk7⟩
  · have hsh : showv A = [] := by rw [showv, if_neg hr]
    have hpu : Ev.put A = [] := by rw [Ev.put, if_neg hr]
    rw [Bool.not_eq_true] at hr
    rw [hr]
    have v1 := fun W (h : P10 W) => show_any A W FA.out (by omega) h
    have v2 := fun W (h : Tab W) => evput_any A W FA.out (by omega) h
    simp only [hsh] at v1
    simp only [hpu] at v2
    unfold evv at v1 v2
    have D1 := Lib.hid v1
    have D2 := Lib.hid v2
    clear v1 v2 hsh hpu hr y0 y1 y2 y3 y4 z0 z1 z2 z3 z4
    go_wp2_with fail
    refine (D1.out _ HP6.out).mono ?_
    rintro r w7 ⟨rfl, k7⟩
    have b7 := B6.out.kept k7
    have k07 := K6.out.trans k7
    clear x0 x1 x2 x3 x4
    have x0 := b7.cell 0
    have x1 := b7.cell 1
    have x2 := b7.cell 2
    have x3 := b7.cell 3
    have x4 := b7.cell 4
    simp only [List.getElem?_toArray, List.getElem?_cons_zero, List.getElem?_cons_succ] at x0 x1 x2 x3 x4
    unfold str
    clear b7
    go_wp2_with fail
    refine (D2.out _ (HT.out.kept k07)).mono ?_
    rintro r w8 ⟨rfl, k8⟩
    have k08 := k07.trans k8
    unfold str
    go_wp2_with fail
    refine (HF.out _ (HT.out.kept k08) (HP.out.kept k08)).mono ?_
    rintro r w9 ⟨rfl, k9⟩
    go_wp2
    go_ret
    exact ⟨rfl, k08.trans k9⟩
end Go.Proofs.YtbenjenifklejaaDoor
