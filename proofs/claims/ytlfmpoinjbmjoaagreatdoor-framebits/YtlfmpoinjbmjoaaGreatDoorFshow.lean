/-
  The walk of frame.Show, where each part's text is told.
-/
import Derived.Test.YtlfmpoinjbmjoaaGreatDoorEshow
import Derived.Test.YtlfmpoinjbmjoaaGreatDoorFget
import Derived.Test.YtlfmpoinjbmjoaaGreatDoorTstrs
namespace Go.Proofs.YtlfmpoinjbmjoaaGreatDoor
open Go.ChangeShapes Go.WideShapes Go.ChangeAt Go.RowKit Go.Shelf

theorem small_1 (w : World) : Calls Tryz.prog 112 #[.int .i64 1] w fun r w' => r = .returned (str [49]) ∧ Kept w w' := by
  go_enter Tryz.func112, Tryz.ntmps112
  go_wp2
  go_ret
  exact ⟨by first | rfl | (simp [str]; rfl), Kept.refl _⟩
theorem format_1 (w : World) : Calls Tryz.prog 111 #[.int .i64 1, .int .i64 10] w fun r w' => r = .returned (str [49]) ∧ Kept w w' := by
  go_enter Tryz.func111, Tryz.ntmps111
  go_wp2_with fail
  refine (small_1 _).mono ?_
  rintro r w1 ⟨rfl, k1⟩
  unfold str
  go_wp2
  go_ret
  exact ⟨rfl, k1⟩
theorem itoai_1 (w : World) : Calls Tryz.prog 110 #[.int .i64 1] w fun r w' => r = .returned (str [49]) ∧ Kept w w' := by
  go_enter Tryz.func110, Tryz.ntmps110
  go_wp2_with fail
  refine (format_1 _).mono ?_
  rintro r w1 ⟨rfl, k1⟩
  unfold str
  go_wp2
  go_ret
  exact ⟨rfl, k1⟩
theorem itoa_1 (w : World) : Calls Tryz.prog 109 #[.int .i64 1] w fun r w' => r = .returned (str (Lib.itoa 1)) ∧ Kept w w' := by
  rw [show Lib.itoa 1 = [49] by decide +kernel]
  go_enter Tryz.func109, Tryz.ntmps109
  go_wp2_with fail
  refine (itoai_1 _).mono ?_
  rintro r w1 ⟨rfl, k1⟩
  unfold str
  go_wp2
  go_ret
  exact ⟨rfl, k1⟩
theorem small_2 (w : World) : Calls Tryz.prog 112 #[.int .i64 2] w fun r w' => r = .returned (str [50]) ∧ Kept w w' := by
  go_enter Tryz.func112, Tryz.ntmps112
  go_wp2
  go_ret
  exact ⟨by first | rfl | (simp [str]; rfl), Kept.refl _⟩
theorem format_2 (w : World) : Calls Tryz.prog 111 #[.int .i64 2, .int .i64 10] w fun r w' => r = .returned (str [50]) ∧ Kept w w' := by
  go_enter Tryz.func111, Tryz.ntmps111
  go_wp2_with fail
  refine (small_2 _).mono ?_
  rintro r w1 ⟨rfl, k1⟩
  unfold str
  go_wp2
  go_ret
  exact ⟨rfl, k1⟩
theorem itoai_2 (w : World) : Calls Tryz.prog 110 #[.int .i64 2] w fun r w' => r = .returned (str [50]) ∧ Kept w w' := by
  go_enter Tryz.func110, Tryz.ntmps110
  go_wp2_with fail
  refine (format_2 _).mono ?_
  rintro r w1 ⟨rfl, k1⟩
  unfold str
  go_wp2
  go_ret
  exact ⟨rfl, k1⟩
theorem itoa_2 (w : World) : Calls Tryz.prog 109 #[.int .i64 2] w fun r w' => r = .returned (str (Lib.itoa 2)) ∧ Kept w w' := by
  rw [show Lib.itoa 2 = [50] by decide +kernel]
  go_enter Tryz.func109, Tryz.ntmps109
  go_wp2_with fail
  refine (itoai_2 _).mono ?_
  rintro r w1 ⟨rfl, k1⟩
  unfold str
  go_wp2
  go_ret
  exact ⟨rfl, k1⟩
theorem small_3 (w : World) : Calls Tryz.prog 112 #[.int .i64 3] w fun r w' => r = .returned (str [51]) ∧ Kept w w' := by
  go_enter Tryz.func112, Tryz.ntmps112
  go_wp2
  go_ret
  exact ⟨by first | rfl | (simp [str]; rfl), Kept.refl _⟩
theorem format_3 (w : World) : Calls Tryz.prog 111 #[.int .i64 3, .int .i64 10] w fun r w' => r = .returned (str [51]) ∧ Kept w w' := by
  go_enter Tryz.func111, Tryz.ntmps111
  go_wp2_with fail
  refine (small_3 _).mono ?_
  rintro r w1 ⟨rfl, k1⟩
  unfold str
  go_wp2
  go_ret
  exact ⟨rfl, k1⟩
theorem itoai_3 (w : World) : Calls Tryz.prog 110 #[.int .i64 3] w fun r w' => r = .returned (str [51]) ∧ Kept w w' := by
  go_enter Tryz.func110, Tryz.ntmps110
  go_wp2_with fail
  refine (format_3 _).mono ?_
  rintro r w1 ⟨rfl, k1⟩
  unfold str
  go_wp2
  go_ret
  exact ⟨rfl, k1⟩
theorem itoa_3 (w : World) : Calls Tryz.prog 109 #[.int .i64 3] w fun r w' => r = .returned (str (Lib.itoa 3)) ∧ Kept w w' := by
  rw [show Lib.itoa 3 = [51] by decide +kernel]
  go_enter Tryz.func109, Tryz.ntmps109
  go_wp2_with fail
  refine (itoai_3 _).mono ?_
  rintro r w1 ⟨rfl, k1⟩
  unfold str
  go_wp2
  go_ret
  exact ⟨rfl, k1⟩
theorem itoa_small (n : Int) (h : n = 1 ∨ n = 2 ∨ n = 3) (w : World) : Calls Tryz.prog 109 #[.int .i64 n] w fun r w' => r = .returned (str (Lib.itoa n)) ∧ Kept w w' := by
  rcases h with rfl | rfl | rfl
  · exact itoa_1 w
  · exact itoa_2 w
  · exact itoa_3 w
/-- nothing is asked of the table -/
def PT (_ : World) : Prop := True
theorem PT.kept {w w' : World} (_ : PT w) (_ : Kept w w') : PT w' := trivial
set_option maxHeartbeats 2000000 in
set_option maxRecDepth 100000 in
theorem show_of (e : Ev.E) (w : World) (hf : Fit e) (ht : e.t.size ≤ 1000000) (hI : ∀ n ∈ [e.o, e.s, (e.l.size : Int), e.d], ∀ W : World, Calls Tryz.prog 109 #[.int .i64 n] W fun r w' => r = .returned (str (Lib.itoa n)) ∧ Kept W w') : Calls Tryz.prog 144 #[evv e] w fun r w' => r = .returned (str (showv e)) ∧ Kept w w' := by
  have Hf := Lib.hid hf
  have HIT := Lib.hid hI
  have HP : Hid (PT w) := trivial
  clear hf hI
  unfold evv
  go_enter Tryz.func144, Tryz.ntmps144
  go_wp2_with fail
  refine (evright_any e _ Hf.out).mono ?_
  rintro r w1 ⟨rfl, k1⟩
  have b1 := (Blk.made w (evc e) 23).kept k1
  have kw1 : Kept w w1 := (Kept.alloc (Kept.refl w) _).trans k1
  have BB := Lib.hid b1
  have KW1 := Lib.hid kw1
  have HP1 := Lib.hid (HP.out.kept kw1)
  clear b1 kw1 k1
  by_cases hr : Ev.right e = true
  · have Hs : Hid (showv e = Lib.itoa e.o ++ [58] ++ Lib.itoa e.s ++ [32] ++ e.t.data.toList ++ [32] ++ Lib.itoa e.l.size ++ [32] ++ Lib.itoa e.d) := by show _ = _; rw [showv, if_pos hr]
    rw [hr]
    have hri := (Ev.right_iff e).1 hr
    obtain ⟨⟨o0, o1⟩, ⟨s0, s1⟩, ⟨d0, d1⟩, hl, _⟩ := hri
    clear hr
    have c0 := BB.out.cell 0
    have c1 := BB.out.cell 1
    simp only [evc, List.getElem?_toArray, List.getElem?_cons_zero, List.getElem?_cons_succ] at c0 c1
    obtain ⟨A, hA, sA, lA⟩ := name_row (Lib.itoa e.o)
    obtain ⟨B, hB, sB, lB⟩ := name_row (Lib.itoa e.s)
    have zA := itoa_len e.o o0 o1
    have zB := itoa_len e.s (by omega) s1
    rw [← sA] at zA
    rw [← sB] at zB
    have ca : ∀ p : KW w1, Calls Tryz.prog 109 #[.int .i64 e.o] p.v fun r w' => r = .returned (.string A) ∧ Kept p.v w' := fun p => by
      have := HIT.out e.o (by simp) p.v
      rwa [hA] at this
    have cb : ∀ p : KW w1, Calls Tryz.prog 109 #[.int .i64 e.s] p.v fun r w' => r = .returned (.string B) ∧ Kept p.v w' := fun p => by
      have := HIT.out e.s (by simp) p.v
      rwa [hB] at this
    have CA := Lib.hid ca
    have CB := Lib.hid cb
    have LA := Lib.hid lA
    have LB := Lib.hid lB
    clear ca cb lA lB hA hB sA sB
    have t0 := KW.cell c0
    have t1 := KW.cell c1
    clear c0 c1
    go_wp2_with fail
    have nn : Nonempty (KW w1) := ⟨⟨w1, Kept.refl w1⟩⟩
    refine wp_region_kept (by kernel_rfl) (by kernel_rfl) ?_
    repeat (go_big_quiet_step ((go_at_call 109; first | (with_reducible exact KW.calls _ (CA.out _)) | (with_reducible exact KW.calls _ (CB.out _)))))
    refine wpQuiet_nil ?_
    intro w6 hw6
    have kk6 : Kept w1 w6 := by
      obtain ⟨p, rfl⟩ := hw6
      exact p.h
    clear hw6 nn t0 t1 CA CB
    have b6 := BB.out.kept kk6
    have K6 := Lib.hid (KW1.out.trans kk6)
    have HP6 := Lib.hid (HP1.out.kept kk6)
    clear kk6 BB KW1 HP1
    have hlt := b6.lt
    have B6 := Lib.hid b6
    clear b6
    obtain ⟨N, hN⟩ : ∃ N : ByteArray, N = A ++ ⟨#[58]⟩ ++ B := ⟨_, rfl⟩
    have hNs : N.size ≤ 27 := by rw [hN, ByteArray.size_append, ByteArray.size_append]; have : (ByteArray.mk #[58]).size = 1 := rfl; omega
    rw [← hN]
    have HN := Lib.hid hN
    clear hN
    obtain ⟨C, hC, sC, lC⟩ := name_row (Lib.itoa e.l.size)
    obtain ⟨D, hD, sD, lD⟩ := name_row (Lib.itoa e.d)
    have zC := itoa_len e.l.size (by omega) (by omega)
    have zD := itoa_len e.d (by omega) (by omega)
    rw [← sC] at zC
    rw [← sD] at zD
    have cc : ∀ W : World, PT W → Calls Tryz.prog 109 #[.int .i64 (e.l.size : Int)] W fun r w' => r = .returned (.string C) ∧ Kept W w' := fun W hW => by
      have := HIT.out (e.l.size : Int) (by simp) W
      rwa [hC] at this
    have cd : ∀ W : World, PT W → Calls Tryz.prog 109 #[.int .i64 e.d] W fun r w' => r = .returned (.string D) ∧ Kept W w' := fun W hW => by
      have := HIT.out e.d (by simp) W
      rwa [hD] at this
    have cj : ∀ W : World, Calls Tryz.prog 35 #[.slice (some ⟨W.heap.size, 0, none⟩) 4 4, .string ⟨#[32]⟩] (W.alloc (.cells #[.string N, .string e.t, .string C, .string D] 9)) fun r w' => r = .returned (.string ⟨(Lib.join [N.data.toList, e.t.data.toList, C.data.toList, D.data.toList] [32]).toArray⟩) ∧ Kept W w' := fun W => by
      have bW := Blk.made W #[.string N, .string e.t, .string C, .string D] 9
      refine (join_any W.heap.size 4 [N, e.t, C, D] ⟨#[32]⟩ _ ?_ bW.lt (by simp) (by simp) ?_).mono fun r w' ⟨h, k⟩ => ⟨h, ((Kept.refl W).alloc _).trans k⟩
      · intro j x hj
        rw [bW.cell j]
        match j, hj with
        | 0, hj => cases hj; rfl
        | 1, hj => cases hj; rfl
        | 2, hj => cases hj; rfl
        | 3, hj => cases hj; rfl
        | j + 4, hj => simp at hj
      · show (Lib.join [N.data.toList, e.t.data.toList, C.data.toList, D.data.toList] [32]).length ≤ _
        simp only [Lib.join, List.intercalate, List.intersperse, List.flatten_cons, List.flatten_nil, List.length_append, size_len, List.length_cons, List.length_nil]
        omega
    have CC := Lib.hid cc
    have CD := Lib.hid cd
    have CJ := Lib.hid cj
    have LC := Lib.hid lC
    have LD := Lib.hid lD
    clear cc cd cj lC lD hC hD sC sD
    have key : ∀ W, Kept w6 W → W.cell? ⟨w.heap.size, 2, none⟩ = some (.string e.t) ∧ W.cell? ⟨w.heap.size, 3, none⟩ = some (.string e.l) ∧ W.cell? ⟨w.heap.size, 4, none⟩ = some (.int .i64 e.d) ∧ PT W := fun W k =>
      ⟨((B6.out.kept k).cell 2).trans rfl, ((B6.out.kept k).cell 3).trans rfl, ((B6.out.kept k).cell 4).trans rfl, HP6.out.kept k⟩
    have s6 := key w6.drew ((Kept.refl w6).drew)
    have KEY := Lib.hid key
    have p6 := s6.2.2.2
    clear key
    go_wp2_with fail
    go_region_held3 (fun w' => w'.cell? ⟨w.heap.size, 2, none⟩ = some (.string e.t) ∧ w'.cell? ⟨w.heap.size, 3, none⟩ = some (.string e.l) ∧ w'.cell? ⟨w.heap.size, 4, none⟩ = some (.int .i64 e.d) ∧ PT w') (first | exact s6 | exact s7 | exact s8 | exact s9 | exact KEY.out _ (Kept.alloc k8 _))
      (first
        | (go_at_call 109; (with_reducible refine (CC.out _ p6).mono ?_); rintro r w7 ⟨rfl, k7'⟩
           have k7 : Kept w6 w7 := ((Kept.refl w6).drew).trans k7'
           have s7 := KEY.out _ k7
           have p7 := s7.2.2.2)
        | (go_at_call 109; (with_reducible refine (CD.out _ p7).mono ?_); rintro r w8 ⟨rfl, k8'⟩
           have k8 : Kept w6 w8 := k7.trans k8'
           have s8 := KEY.out _ k8)
        | (go_at_call 35; (with_reducible refine (CJ.out _).mono ?_); rintro r w9 ⟨rfl, k9'⟩
           have k9 : Kept w6 w9 := k8.trans k9'
           have s9 := KEY.out _ k9))
    go_wp2
    go_ret
    refine ⟨?_, K6.out.trans k9⟩
    rw [Hs.out]
    have e1 : Lib.join [N.data.toList, e.t.data.toList, C.data.toList, D.data.toList] [32] = Lib.itoa e.o ++ [58] ++ Lib.itoa e.s ++ [32] ++ e.t.data.toList ++ [32] ++ Lib.itoa ↑e.l.size ++ [32] ++ Lib.itoa e.d := by
      rw [HN.out, LC.out, LD.out]
      simp [Lib.join, List.intercalate, List.intersperse, ByteArray.data_append, LA.out, LB.out]
    show Ending.returned (.string ⟨(Lib.join [N.data.toList, e.t.data.toList, C.data.toList, D.data.toList] [32]).toArray⟩) = _
    rw [e1]
    rfl
  · have Hs : Hid (showv e = []) := by show _ = _; rw [showv, if_neg hr]
    rw [Bool.not_eq_true] at hr
    rw [hr]
    go_wp2
    go_ret
    exact ⟨by rw [Hs.out]; rfl, KW1.out⟩
end Go.Proofs.YtlfmpoinjbmjoaaGreatDoor

namespace Go.Proofs.YtlfmpoinjbmjoaaGreatDoor
open Go.ChangeShapes Go.WideShapes Go.ChangeAt Go.RowKit

def mshow : Fr.P → FuncId
  | .ep => 108
  | .sq _ => 108
  | .cr => 108
  | .ms => 127
  | .ev => 140
  | .on => 166
  | .fl => 171
theorem show_mof (p : Fr.P) (w : World) : (method 275 (pt p) (pv p) "rivulet/frame.show").run Tryz.prog w = .ok (mshow p, pv p) w := by cases p <;> kernel_rfl
theorem show_enter (p : Fr.P) (args : Array Value) (w : World) : (callFunc (mshow p) args).run Tryz.prog w = .ok (.enter (mshow p) args) w := by cases p <;> kernel_rfl

set_option maxHeartbeats 400000 in
theorem ep_show (x : Int) (g : Nat) (w : World) (hc : w.cell? ⟨g, 1, none⟩ = some (.int .i64 x)) (hx : x = 1 ∨ x = 2 ∨ x = 3) :
    Calls Tryz.prog 108 #[epv, .pointer (some ⟨g, 0, none⟩)] w fun r w' => r = .returned (str (Lib.itoa x)) ∧ Kept w w' := by
  have CI := Lib.hid (itoa_small x hx)
  obtain ⟨A, hA, _, _⟩ := name_row (Lib.itoa x)
  rw [hA] at CI ⊢
  have hlt := World.block_lt_of_cell? w _ hc
  unfold epv
  clear hA hx
  go_enter Tryz.func108, Tryz.ntmps108
  go_wp2_with fail
  refine (epoch_any g _).mono ?_
  rintro r w1 ⟨rfl, rfl⟩
  go_wp2_with fail
  refine (CI.out _).mono ?_
  rintro r w2 ⟨rfl, k2⟩
  have K2 := Lib.hid (((Kept.refl w).alloc _).trans k2)
  clear k2 CI
  go_wp2
  go_ret
  exact ⟨rfl, K2.out⟩
set_option maxHeartbeats 400000 in
theorem sq_show (n x : Int) (g : Nat) (w : World) (hc : w.cell? ⟨g, 2, none⟩ = some (.int .i64 x)) (hx : x = 1 ∨ x = 2 ∨ x = 3) :
    Calls Tryz.prog 108 #[sqv n, .pointer (some ⟨g, 0, none⟩)] w fun r w' => r = .returned (str (Lib.itoa x)) ∧ Kept w w' := by
  have CI := Lib.hid (itoa_small x hx)
  obtain ⟨A, hA, _, _⟩ := name_row (Lib.itoa x)
  rw [hA] at CI ⊢
  have hlt := World.block_lt_of_cell? w _ hc
  unfold sqv
  clear hA hx
  go_enter Tryz.func108, Tryz.ntmps108
  go_wp2_with fail
  refine (sequence_any g _).mono ?_
  rintro r w1 ⟨rfl, rfl⟩
  go_wp2_with fail
  refine (CI.out _).mono ?_
  rintro r w2 ⟨rfl, k2⟩
  have K2 := Lib.hid (((Kept.refl w).alloc _).trans k2)
  clear k2 CI
  go_wp2
  go_ret
  exact ⟨rfl, K2.out⟩
set_option maxHeartbeats 400000 in
theorem ev_show (f : Fr.F) (av : Option Addr) (cap : Nat) (g : Nat) (w : World) (hb : Blk w g (frc f av cap) 26) (hf : Fit f.e) (ht : f.e.t.size ≤ 65536) (hI : ∀ n ∈ [f.e.o, f.e.s, (f.e.l.size : Int), f.e.d], n = 1 ∨ n = 2 ∨ n = 3) :
    Calls Tryz.prog 140 #[.agg #[], .pointer (some ⟨g, 0, none⟩)] w fun r w' => r = .returned (str (showv f.e)) ∧ Kept w w' := by
  have hlt := hb.lt
  have c6 : w.cell? ⟨g, 6, none⟩ = some (.int .i64 f.e.o) := cell_of hb 6 rfl
  have c7 : w.cell? ⟨g, 7, none⟩ = some (.int .i64 f.e.s) := cell_of hb 7 rfl
  have c8 : w.cell? ⟨g, 8, none⟩ = some (.string f.e.t) := cell_of hb 8 rfl
  have c9 : w.cell? ⟨g, 9, none⟩ = some (.string f.e.l) := cell_of hb 9 rfl
  have c10 : w.cell? ⟨g, 10, none⟩ = some (.int .i64 f.e.d) := cell_of hb 10 rfl
  have CS : Hid (Calls Tryz.prog 144 #[evv f.e] (w.alloc (.cells #[] 97)) fun r w' => r = .returned (str (showv f.e)) ∧ Kept (w.alloc (.cells #[] 97)) w') := show_of f.e _ hf (by omega) (fun n hn W => itoa_small n (hI n hn) W)
  unfold evv at CS
  obtain ⟨A, hA, _, _⟩ := name_row (showv f.e)
  rw [hA] at CS ⊢
  clear hA hb hf hI
  go_enter Tryz.func140, Tryz.ntmps140
  go_wp2_with fail
  refine CS.out.mono ?_
  rintro r w1 ⟨rfl, k1⟩
  go_wp2
  go_ret
  exact ⟨rfl, ((Kept.refl w).alloc _).trans k1⟩

theorem join_len : ∀ xs : List (List UInt8), xs.length ≤ 4 → (∀ l ∈ xs, l.length ≤ 1000) → (Lib.join xs [32]).length ≤ 1000000
  | [], _, _ => by simp [Lib.join, List.intercalate]
  | [a], _, h => by have := h a (by simp); simp [Lib.join, List.intercalate]; omega
  | [a, b], _, h => by have := h a (by simp); have := h b (by simp); simp [Lib.join, List.intercalate]; omega
  | [a, b, c], _, h => by have := h a (by simp); have := h b (by simp); have := h c (by simp); simp [Lib.join, List.intercalate]; omega
  | [a, b, c, d], _, h => by have := h a (by simp); have := h b (by simp); have := h c (by simp); have := h d (by simp); simp [Lib.join, List.intercalate]; omega
  | a :: b :: c :: d :: e :: r, h, _ => by simp at h
theorem own_one (w : World) (p : ByteArray) : OwnS (w.alloc (.cells #[.string p] 9)) w.heap.size (.slice (some ⟨w.heap.size, 0, none⟩) 1 1) [p.data.toList] :=
  ⟨rfl, .inr ⟨w.heap.size, 1, #[.string p], rfl, Nat.le_refl _, heap_alloc_new w _, Nat.le_refl _, by unfold maxLen; decide, rfl, by simp [str]⟩⟩
set_option maxHeartbeats 1000000 in
set_option maxRecDepth 100000 in
theorem frshow_of (f : Fr.F) (av : Option Addr) (cap : Nat) (w : World) (hf : FrS w f av cap) (hright : Fr.right f = true) (txt : Fr.P → List UInt8)
    (hS : ∀ p ∈ Fr.parts f.k, (txt p).length ≤ 1000 ∧ ∀ (W : World) (g : Nat), FrB W g f av cap → Calls Tryz.prog (mshow p) #[pv p, .pointer (some ⟨g, 0, none⟩)] W fun r w' => r = .returned (str (txt p)) ∧ Kept W w') :
    Calls Tryz.prog 14 #[frv f av cap] w fun r w' => r = .returned (str (Lib.join ((kname (f.k - 1).toNat).data.toList :: (Fr.parts f.k).map txt) [32])) ∧ Kept w w' := by
  have HF := Lib.hid hf
  have HC : Hid (∀ w', Kept w w' → Calls Tryz.prog 24 #[frv f av cap] w' fun r w'' => (∃ nm p l c, r = .returned (.tuple #[.agg #[.string nm, .slice p l c], .bool (Fr.right f)]) ∧ (Fr.right f = true → KV w'' (f.k - 1).toNat (.agg #[.string nm, .slice p l c]))) ∧ Kept w' w'') := fun w' k => kindOf_any f av cap w' (hf.kept k)
  clear hf
  unfold frv frc at HC ⊢
  go_enter Tryz.func14, Tryz.ntmps14
  go_wp2_with fail
  refine (HC.out _ ((Kept.refl w).alloc _)).mono ?_
  rintro r w1 ⟨⟨nm, p, l, c, rfl, hv⟩, k1⟩
  have hlt1 : w.heap.size < w1.heap.size := Nat.lt_of_lt_of_le (by simp) k1.size
  have b1 := (Blk.made w (frc f av cap) 26).kept k1
  have kw1 : Kept w w1 := ((Kept.refl w).alloc _).trans k1
  cases hr : Fr.right f with
  | false =>
    exact absurd hr (by rw [hright]; decide)
  | true =>
    obtain ⟨b, hve, hb⟩ := hv hr
    simp only [Value.agg.injEq, Array.mk.injEq, List.cons.injEq, Value.string.injEq, Value.slice.injEq, and_true] at hve
    obtain ⟨rfl, rfl, rfl, rfl⟩ := hve
    have hk := Fr.right_kind f hr
    have hps := (Fr.right_parts f hr).1
    have hin := hS
    rw [(kparts_has f.k hk).2.1] at hps hin
    have hp3 := (kparts_has f.k hk).2.2
    obtain ⟨j, hj⟩ : ∃ j, j = (f.k - 1).toNat := ⟨_, rfl⟩
    rw [← hj] at hps hin hp3 hb ⊢
    have hb' : Blk w1 b ((kparts j).map partv).toArray 54 := hb
    obtain ⟨ps, hpsd⟩ : ∃ ps, ps = kparts j := ⟨_, rfl⟩
    rw [← hpsd] at hps hin hp3 hb' ⊢
    obtain ⟨n, hn⟩ : ∃ n, n = ps.length := ⟨_, rfl⟩
    rw [← hn] at hp3 ⊢
    obtain ⟨kn, hkn⟩ : ∃ kn, kn = kname j := ⟨_, rfl⟩
    rw [← hkn]
    have HFIN : Hid (Lib.join ((kname (f.k - 1).toNat).data.toList :: (Fr.parts f.k).map txt) [32] = Lib.join (kn.data.toList :: ps.map txt) [32] ∧ kn.size ≤ 7) := by
      refine ⟨by rw [hkn, hj, hpsd, hj, (kparts_has f.k hk).2.1], ?_⟩
      rw [hkn]
      unfold kname
      split <;> decide
    clear hkn
    have h1 : FrB w1 w.heap.size f av cap := ⟨b1, HF.out.kept kw1, HF.out.ms.low _ (Nat.le_refl _)⟩
    have c0 : w1.cell? ⟨w.heap.size, 0, none⟩ = some (.int .i64 f.k) := cell_of b1 0 rfl
    have H1 := Lib.hid h1
    have HB := Lib.hid hb'
    have K1 := Lib.hid kw1
    have Hps := Lib.hid hps
    have Hin := Lib.hid hin
    have Hn := Lib.hid hn
    have hblt := hb'.lt
    have hklo := hk.1
    have hkhi := hk.2
    clear hv k1 hr b1 kw1 HC h1 hb hb' hps hin hn hpsd hj hk
    obtain ⟨i0, hi, hz0, hz1, hz2⟩ := info_parts infoStr
    have Hi := Lib.hid hi
    have Hz0 := Lib.hid hz0
    have Hz1 := Lib.hid hz1
    have Hz2 := Lib.hid hz2
    clear hi hz0 hz1 hz2 hS
    have hown0 := own_one (w1.alloc (.cells #[.string kn, .slice (some ⟨b, 0, none⟩) n n] 44)) kn
    have HO0 := Lib.hid (hown0.mono (base' := w1.heap.size) (by simp))
    have HK0 : Hid (Kept w1 ((w1.alloc (.cells #[.string kn, .slice (some ⟨b, 0, none⟩) n n] 44)).alloc (.cells #[.string kn] 9))) := ((Kept.refl w1).alloc _).alloc _
    rw [World.size_alloc] at HO0
    clear hown0
    go_wp2
    go_loopw [5, 7, 21] (fun ws _ i wr => ∃ k : Nat, k ≤ n ∧ i = .int .i64 k ∧ Hid (OwnS wr w1.heap.size ws (kn.data.toList :: (ps.take k).map txt)) ∧ Hid (Kept w1 wr)) (fun _ _ i _ => n - (intOf i).toNat)
    case atStart => exact ⟨0, by omega, rfl, HO0.out, HK0.out⟩
    case round =>
      obtain ⟨k, hk, rfl, HO, HK⟩ := hrel
      by_cases hlt : k < n
      · have hkl : k < ps.length := by rw [← Hn.out]; exact hlt
        have d0 := part_cell (HB.out.kept HK.out) hkl
        have hct := Hin.out ps[k] (List.getElem_mem hkl)
        have hnx : (ps.take (k + 1)).map txt = (ps.take k).map txt ++ [txt ps[k]] := by rw [List.take_succ_eq_append_getElem hkl, List.map_append]; rfl
        obtain ⟨p, hp⟩ : ∃ p, p = ps[k] := ⟨_, rfl⟩
        rw [← hp] at d0 hct hnx
        obtain ⟨q, hq, _, _⟩ := name_row (txt p)
        have cs := hct.2 wr w.heap.size (H1.out.kept HK.out)
        rw [hq] at cs
        have hln : (kn.data.toList :: (ps.take k).map txt).length = k + 1 := by simp; omega
        have hown1 := HO.out
        obtain ⟨xs, hxs⟩ : ∃ xs, xs = kn.data.toList :: (ps.take k).map txt := ⟨_, rfl⟩
        rw [← hxs] at hown1 hln
        have hme := show_mof p
        have hen := show_enter p
        have CS := Lib.hid cs
        have HNX := Lib.hid hnx
        have Hq := Lib.hid hq
        have HXS := Lib.hid hxs
        have HLN := Lib.hid hln
        have HO1 := Lib.hid hown1
        clear cs hnx hq hxs hln hown1 hct hp HO
        go_wp2_with fail
        refine CS.out.mono ?_
        rintro r w3 ⟨rfl, k3⟩
        have hown3 := HO1.out.kept k3
        have HK3 := Lib.hid (HK.out.trans k3)
        clear k3 hme hen d0 CS
        go_wp2_with (first
          | (at_builtin; refine wpList_append_own _ rfl _ _ 59 rfl w1.heap.size 9 i0 (.string ⟨#[]⟩) 1 16 Tryz.underlying59 Hi.out Hz0.out Hz1.out Hz2.out rfl (by decide) _ _ _ rfl (World.ownsRow.alloc hown3 _) ⟨w3.heap.size, 0, none⟩ 1 1 [.string q] rfl rfl (one_cell _ _) (one_one _) (by have := HLN.out; unfold maxLen; omega) (by have := HLN.out; omega) (by have := HK3.out.size; simp; omega) ?_))
        intro v' w4 hown4 hgrow _
        have k4 : Kept w1 w4 := kept_grown (HK3.out.alloc _) hgrow (fun k hk => (World.ownsRow.lt hown3 k hk).1)
        have hown5 := own_snoc Hq.out hown4
        have HO5 : Hid (OwnS w4 w1.heap.size v' (kn.data.toList :: (ps.take (k + 1)).map txt)) := by
          show OwnS _ _ _ _
          rw [HNX.out, ← List.cons_append, ← HXS.out]
          exact hown5
        have HK4 := Lib.hid k4
        clear hown5 hown4 hgrow hown3 k4
        go_wp2
        go_roundw
        case rel => exact ⟨k + 1, by omega, by go_num, HO5, HK4⟩
        case measure => simp [intOf]; omega
      · obtain rfl : k = n := by omega
        have ho := HO.out
        rw [List.take_of_length_le (by rw [← Hn.out]; exact Nat.le_refl _)] at ho
        have hlen : (kn.data.toList :: ps.map txt).length = k + 1 := by simp; exact Hn.out.symm
        rcases ho.2 with ⟨_, h0⟩ | ⟨g, cp, cur, hv, hb, hg, h1, h2, h3, h4⟩
        · rw [hlen] at h0; omega
        subst hv
        have hcell := fun j h => World.ownsRow.cellAt (show wr.ownsRow w1.heap.size 9 1 (.slice (some ⟨g, 0, none⟩) (kn.data.toList :: ps.map txt).length cp) (kn.data.toList :: ps.map txt).length ((kn.data.toList :: ps.map txt).map str) from ho) j h
        have hxs : ((kn.data.toList :: ps.map txt).map fun l => (⟨l.toArray⟩ : ByteArray)).map (fun x => x.data.toList) = kn.data.toList :: ps.map txt := by
          rw [List.map_map]
          conv => rhs; rw [← List.map_id (kn.data.toList :: ps.map txt)]
          rfl
        have hbound : (Lib.join (kn.data.toList :: ps.map txt) [32]).length ≤ 1000000 := join_len _ (by rw [hlen]; omega) (fun l hl => by
          rcases List.mem_cons.1 hl with rfl | hl
          · have := HFIN.out.2; rw [size_len]; omega
          · obtain ⟨p, hp, rfl⟩ := List.mem_map.1 hl
            exact (Hin.out p hp).1)
        have cj := join_any g cp ((kn.data.toList :: ps.map txt).map fun l => (⟨l.toArray⟩ : ByteArray)) ⟨#[32]⟩ wr (fun j x hj => by
          rw [List.getElem?_map] at hj
          cases hx : (kn.data.toList :: ps.map txt)[j]? with
          | none => rw [hx] at hj; cases hj
          | some l =>
            rw [hx] at hj
            cases hj
            have hjl := (List.getElem?_eq_some_iff.1 hx).1
            have := hcell j (by simpa using hjl)
            rw [List.getElem?_map, hx] at this
            exact this) (heap_lt hg) (by rw [List.length_map, hlen]; omega) (by rw [List.length_map]; exact h1) (by rw [hxs]; show (Lib.join (kn.data.toList :: ps.map txt) [32]).length ≤ _; omega)
        rw [hxs, List.length_map, hlen] at cj
        have hj2 : Lib.join (kn.data.toList :: ps.map txt) (⟨#[32]⟩ : ByteArray).data.toList = Lib.join (kn.data.toList :: ps.map txt) [32] := rfl
        rw [hj2] at cj
        obtain ⟨A, hA, _, _⟩ := name_row (Lib.join (kn.data.toList :: ps.map txt) [32])
        rw [hA] at cj
        have CJ := Lib.hid cj
        have HA := Lib.hid hA
        rw [hlen]
        clear cj hA hj2 hbound hxs hcell ho hg h1 h2 h3 h4 hlen
        go_wp2_with fail
        refine CJ.out.mono ?_
        rintro r w5 ⟨rfl, k5⟩
        have K5 := Lib.hid ((K1.out.trans HK.out).trans k5)
        clear k5 CJ
        go_wp2
        go_ret
        exact ⟨by rw [HFIN.out.1, HA.out]; rfl, K5.out⟩
end Go.Proofs.YtlfmpoinjbmjoaaGreatDoor
