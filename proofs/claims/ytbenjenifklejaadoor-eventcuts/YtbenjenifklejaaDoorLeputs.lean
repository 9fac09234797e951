/-
  The walk of the law EventPuts.
-/
import Derived.Test.YtbenjenifklejaaDoorLemarks
import Derived.Test.YtbenjenifklejaaDoorEref2
namespace Go.Proofs.YtbenjenifklejaaDoor
open Go.ChangeShapes Go.WideShapes Go.ChangeAt Go.RowKit

theorem KW.fixed {w : World} (hF : Fixed) (hT : Tab w) (hP : P10 w) (p : KW w) : Calls Tryd.prog 21 #[] p.v fun r w' => r = .returned (.bool true) ∧ Kept p.v w' := hF p.v (hT.kept p.h) (hP.kept p.h)

set_option maxHeartbeats 2000000 in
set_option maxRecDepth 100000 in
theorem eputs_walk (a b : Ev.E) (n : Int) (w : World) (ha : Came a) (hb : Came b) (h1 : -9223372036854775808 ≤ n) (h2 : n ≤ 9223372036854775807) (hT : Tab w) (hP : P10 w) (hF : Fixed) :
    Calls Tryd.prog 3 #[evv a, evv b, .int .i64 n] w fun e w' => e = .returned (.bool true) ∧ Kept w w' := by
  have HA := Lib.hid ha
  have HB := Lib.hid hb
  have HT := Lib.hid hT
  have HP := Lib.hid hP
  have HF := Lib.hid hF
  obtain ⟨fa, ta, la⟩ := cutE_fit ha
  obtain ⟨fb, tb, lb⟩ := cutE_fit hb
  have ca := cut_ev a
  have cb := cut_ev b
  obtain ⟨A, hAe⟩ : ∃ A, A = cutE a := ⟨_, rfl⟩
  obtain ⟨B, hBe⟩ : ∃ B, B = cutE b := ⟨_, rfl⟩
  rw [← hAe] at fa ta la ca
  rw [← hBe] at fb tb lb cb
  have FA := Lib.hid fa
  have FB := Lib.hid fb
  have CA := Lib.hid ca
  have CB := Lib.hid cb
  clear hAe hBe ca cb fa fb ha hb hT hP hF
  unfold evv
  go_enter Tryd.func3, Tryd.ntmps3
  go_wp2_with fail
  have bx := (Blk.made w (evc a) 23).alloc (.cells (evc b) 23)
  have by_ := Blk.made (w.alloc (.cells (evc a) 23)) (evc b) 23
  rw [World.size_alloc] at by_
  have k0 : Kept w ((w.alloc (.cells (evc a) 23)).alloc (.cells (evc b) 23)) := Kept.alloc (Kept.alloc (Kept.refl w) _) _
  refine (CA.out _ HA.out).mono ?_
  rintro r w1 ⟨rfl, k1⟩
  have bx1 := bx.kept k1
  have by1 := by_.kept k1
  have k01 := k0.trans k1
  have x0 := bx1.cell 0
  have x1 := bx1.cell 1
  have x2 := bx1.cell 2
  have x3 := bx1.cell 3
  have x4 := bx1.cell 4
  have xf0 := bx1.frozen 0
  have xf1 := bx1.frozen 1
  have xf2 := bx1.frozen 2
  have xf3 := bx1.frozen 3
  have xf4 := bx1.frozen 4
  have y0 := by1.cell 0
  have y1 := by1.cell 1
  have y2 := by1.cell 2
  have y3 := by1.cell 3
  have y4 := by1.cell 4
  simp only [evc, List.getElem?_toArray, List.getElem?_cons_zero, List.getElem?_cons_succ] at x0 x1 x2 x3 x4 y0 y1 y2 y3 y4
  have BX := Lib.hid bx1
  have BY := Lib.hid by1
  clear bx by_ bx1 by1 k0 k1
  unfold evv
  go_wp2_with fail
  have b2 := set_ev w.heap.size w1 a A BX.out
  have c2 : Blk (((((w1.setCell ⟨w.heap.size, 0, none⟩ (.int .i64 A.o)).setCell ⟨w.heap.size, 1, none⟩ (.int .i64 A.s)).setCell ⟨w.heap.size, 2, none⟩ (.string A.t)).setCell ⟨w.heap.size, 3, none⟩ (.string A.l)).setCell ⟨w.heap.size, 4, none⟩ (.int .i64 A.d)) (w.heap.size + 1) (evc b) 23 :=
    ((((BY.out.far _ _ (by simp)).far _ _ (by simp)).far _ _ (by simp)).far _ _ (by simp)).far _ _ (by simp)
  have k2 := set_kept w.heap.size w w1 (.int .i64 A.o) (.int .i64 A.s) (.string A.t) (.string A.l) (.int .i64 A.d) k01 (Nat.le_refl _)
  obtain ⟨w2, hw2⟩ : ∃ w2, w2 = ((((w1.setCell ⟨w.heap.size, 0, none⟩ (.int .i64 A.o)).setCell ⟨w.heap.size, 1, none⟩ (.int .i64 A.s)).setCell ⟨w.heap.size, 2, none⟩ (.string A.t)).setCell ⟨w.heap.size, 3, none⟩ (.string A.l)).setCell ⟨w.heap.size, 4, none⟩ (.int .i64 A.d) := ⟨_, rfl⟩
  rw [← hw2] at b2 c2 k2 ⊢
  clear hw2 BX BY k01 x0 x1 x2 x3 x4 xf0 xf1 xf2 xf3 xf4 y0 y1 y2 y3 y4
  refine (CB.out _ HB.out).mono ?_
  rintro r w3 ⟨rfl, k3⟩
  have b3 := b2.kept k3
  have c3 := c2.kept k3
  have k03 := k2.trans k3
  have y0 := c3.cell 0
  have y1 := c3.cell 1
  have y2 := c3.cell 2
  have y3 := c3.cell 3
  have y4 := c3.cell 4
  have yf0 := c3.frozen 0
  have yf1 := c3.frozen 1
  have yf2 := c3.frozen 2
  have yf3 := c3.frozen 3
  have yf4 := c3.frozen 4
  simp only [evc, List.getElem?_toArray, List.getElem?_cons_zero, List.getElem?_cons_succ] at y0 y1 y2 y3 y4
  have BX := Lib.hid b3
  have BY := Lib.hid c3
  clear b2 c2 b3 c3 k2 k3
  unfold evv
  go_wp2_with fail
  have c4 := set_ev (w.heap.size + 1) w3 b B BY.out
  have b4 : Blk (((((w3.setCell ⟨w.heap.size + 1, 0, none⟩ (.int .i64 B.o)).setCell ⟨w.heap.size + 1, 1, none⟩ (.int .i64 B.s)).setCell ⟨w.heap.size + 1, 2, none⟩ (.string B.t)).setCell ⟨w.heap.size + 1, 3, none⟩ (.string B.l)).setCell ⟨w.heap.size + 1, 4, none⟩ (.int .i64 B.d)) w.heap.size (evc A) 23 :=
    ((((BX.out.far _ _ (by simp)).far _ _ (by simp)).far _ _ (by simp)).far _ _ (by simp)).far _ _ (by simp)
  have k4 := set_kept (w.heap.size + 1) w w3 (.int .i64 B.o) (.int .i64 B.s) (.string B.t) (.string B.l) (.int .i64 B.d) k03 (by omega)
  obtain ⟨w4, hw4⟩ : ∃ w4, w4 = ((((w3.setCell ⟨w.heap.size + 1, 0, none⟩ (.int .i64 B.o)).setCell ⟨w.heap.size + 1, 1, none⟩ (.int .i64 B.s)).setCell ⟨w.heap.size + 1, 2, none⟩ (.string B.t)).setCell ⟨w.heap.size + 1, 3, none⟩ (.string B.l)).setCell ⟨w.heap.size + 1, 4, none⟩ (.int .i64 B.d) := ⟨_, rfl⟩
  rw [← hw4] at b4 c4 k4 ⊢
  clear hw4 BX BY k03 y0 y1 y2 y3 y4 yf0 yf1 yf2 yf3 yf4
  have K4 := Lib.hid k4
  have HT4 := Lib.hid (HT.out.kept k4)
  have HP4 := Lib.hid (HP.out.kept k4)
  have x0 := b4.cell 0
  have x1 := b4.cell 1
  have x2 := b4.cell 2
  have x3 := b4.cell 3
  have x4 := b4.cell 4
  have y0 := c4.cell 0
  have y1 := c4.cell 1
  have y2 := c4.cell 2
  have y3 := c4.cell 3
  have y4 := c4.cell 4
  simp only [evc, List.getElem?_toArray, List.getElem?_cons_zero, List.getElem?_cons_succ] at x0 x1 x2 x3 x4 y0 y1 y2 y3 y4
  have t0 := KW.cell x0
  have t1 := KW.cell x1
  have t2 := KW.cell x2
  have t3 := KW.cell x3
  have t4 := KW.cell x4
  have u0 := KW.cell y0
  have u1 := KW.cell y1
  have u2 := KW.cell y2
  have u3 := KW.cell y3
  have u4 := KW.cell y4
  clear b4 c4 k4 x0 x1 x2 x3 x4 y0 y1 y2 y3 y4
  have aF := FA.out
  have bF := FB.out
  obtain ⟨S1, hS1, _, _⟩ := name_row (Ev.put A)
  obtain ⟨S2, hS2, _, _⟩ := name_row (showv A)
  obtain ⟨G, hG⟩ : ∃ G, G = Ev.age A n := ⟨_, rfl⟩
  have d1 := fun p : KW w4 => evright_any A p.v aF
  have d2 := fun p : KW w4 => rright_ev A p.v aF (by omega)
  have d3 := fun p : KW w4 => evput_any A p.v aF (by omega) (HT4.out.kept p.h)
  have d4 := fun p : KW w4 => rput_any A p.v aF (by omega)
  have d5 := fun p : KW w4 => show_any A p.v aF (by omega) (HP4.out.kept p.h)
  have d6 := fun p : KW w4 => rshow_any A p.v aF (by omega)
  have d7 := fun p : KW w4 => age_any A n p.v aF h1 h2
  have d8 := fun p : KW w4 => rage_any A n p.v aF h1 h2
  have d9 := fun p : KW w4 => same_ev A B p.v
  have d10 := fun p : KW w4 => rsame_ev A B p.v
  have d11 := fun p : KW w4 => KW.fixed HF.out HT4.out HP4.out p
  rw [hS1] at d3 d4
  rw [hS2] at d5 d6
  rw [← hG] at d7 d8
  generalize Ev.right A = X at d1 d2
  generalize Ev.same A B = Y at d9 d10
  unfold evv at d1 d2 d3 d4 d5 d6 d7 d8 d9 d10
  clear hS1 hS2 hG aF bF
  have D1 := Lib.hid d1
  have D2 := Lib.hid d2
  have D3 := Lib.hid d3
  have D4 := Lib.hid d4
  have D5 := Lib.hid d5
  have D6 := Lib.hid d6
  have D7 := Lib.hid d7
  have D8 := Lib.hid d8
  have D9 := Lib.hid d9
  have D10 := Lib.hid d10
  have D11 := Lib.hid d11
  clear d1 d2 d3 d4 d5 d6 d7 d8 d9 d10 d11
  have nn : Nonempty (KW w4) := ⟨⟨w4, Kept.refl w4⟩⟩
  cases X <;> cases Y
  all_goals
    refine wp_region_kept (by kernel_rfl) (by kernel_rfl) ?_
    repeat (go_big_quiet_step ((first
      | (go_at_call 11; with_reducible exact KW.calls _ (D1.out _))
      | (go_at_call 12; with_reducible exact KW.calls _ (D2.out _))
      | (go_at_call 13; with_reducible exact KW.calls _ (D3.out _))
      | (go_at_call 14; with_reducible exact KW.calls _ (D4.out _))
      | (go_at_call 15; with_reducible exact KW.calls _ (D5.out _))
      | (go_at_call 16; with_reducible exact KW.calls _ (D6.out _))
      | (go_at_call 17; with_reducible exact KW.calls _ (D7.out _))
      | (go_at_call 18; with_reducible exact KW.calls _ (D8.out _))
      | (go_at_call 19; with_reducible exact KW.calls _ (D9.out _))
      | (go_at_call 20; with_reducible exact KW.calls _ (D10.out _))
      | (go_at_call 21; with_reducible exact KW.calls _ (D11.out _)))))
    refine wpQuiet_nil ?_
    intro w6 hw6
    have kk6 : Kept w4 w6 := by
      obtain ⟨p, rfl⟩ := hw6
      exact p.h
    clear hw6
    go_wp2
    go_ret
    exact ⟨rfl, K4.out.trans kk6⟩
end Go.Proofs.YtbenjenifklejaaDoor
