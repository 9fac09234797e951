/-
  The walk of Show.
-/
import Derived.Test.YtlfmpoinjbmjoaaGreatDoorEmark
import Derived.Test.YtlfmpoinjbmjoaaGreatDoorRshelf
import Derived.Deep.RegionHeld3
namespace Go.Proofs.YtlfmpoinjbmjoaaGreatDoor
open Go.ChangeShapes Go.WideShapes Go.ChangeAt Go.RowKit Go.Shelf

/-- the library's table of powers of ten -/
def P10 (w : World) : Prop := Lib.TabIs Tryz.prog w "internal/strconv.uint64pow10" .u64 Lib.pow10Tab
theorem gPow : Tryz.prog.globalNamed "internal/strconv.uint64pow10" = some 2 := by kernel_rfl
theorem P10.kept {w w' : World} (h : P10 w) (k : Kept w w') : P10 w' := by
  unfold P10 Lib.TabIs World.var? at h ⊢
  rw [gPow] at h ⊢
  simp only [Option.bind_some] at h ⊢
  have hlt : 2 < w.heap.size := by
    rcases Nat.lt_or_ge 2 w.heap.size with h1 | h1
    · exact h1
    · rw [Array.getElem?_eq_none h1] at h; cases h
  rw [Below.block k _ hlt]
  exact h
theorem grow_kept (w : World) (k : Nat) (os : Array Obj) : Kept w (Sort.grow (w.drewN k) os) := by
  refine ⟨rfl, rfl, rfl, ?_, fun i hi => ?_⟩
  · show w.heap.size ≤ (w.heap ++ os).size
    rw [Array.size_append]; omega
  · show (w.heap ++ os)[i]? = w.heap[i]?
    rw [Array.getElem?_append_left hi]
theorem itoa_any (n : Int) (w : World) (h0 : -9223372036854775808 ≤ n) (h1 : n ≤ 9223372036854775807) (hP : P10 w) :
    Calls Tryz.prog 109 #[.int .i64 n] w fun e w' => e = .returned (str (Lib.itoa n)) ∧ Kept w w' :=
  (Any.strconv_Itoa Tryz.itoa n h0 h1 w hP).mono fun _ _ ⟨he, k, os, hw⟩ => ⟨he, by rw [hw]; exact grow_kept w k os⟩
theorem joinExtra : Builder.Extra Tryz.prog Tryz.join_ren where
  sizeBuilder := by kernel_rfl
  liesBuilder := by kernel_rfl
  t5 := Tryz.underlying5
  a5 := Tryz.isAgg5
  z5 := Tryz.sizeOf5
  v5 := Tryz.zeroValue5
  infoByte := by kernel_rfl
  cellsByte := by kernel_rfl
  sizeByte := by kernel_rfl
  neB5 := by decide
theorem join_any (bk c : Nat) (xs : List ByteArray) (sep : ByteArray) (w : World) (hc : ∀ (j : Nat) x, xs[j]? = some x → w.cell? ⟨bk, j, none⟩ = some (.string x)) (hb : bk < w.heap.size) (hN : xs.length ≤ 140737488355328) (hcap : xs.length ≤ c)
    (hl : (Lib.join (xs.map (·.data.toList)) sep.data.toList).length ≤ 140737488355328) :
    Calls Tryz.prog 35 #[.slice (some ⟨bk, 0, none⟩) xs.length c, .string sep] w fun e w' => e = .returned (str (Lib.join (xs.map (·.data.toList)) sep.data.toList)) ∧ Kept w w' :=
  Any.strings_Join Tryz.join joinExtra bk 0 c xs sep w (by simpa using hc) hb hN hcap hl

/-- an event as a text -/
def showv (e : Ev.E) : List UInt8 := if Ev.right e then Lib.itoa e.o ++ [58] ++ Lib.itoa e.s ++ [32] ++ e.t.data.toList ++ [32] ++ Lib.itoa e.l.size ++ [32] ++ Lib.itoa e.d else []
theorem nd_le : ∀ (k u : Nat), u < 10 ^ (k + 1) → Lib.nDigits u ≤ k + 1
  | 0, u, h => by rw [Lib.nDigits_small (by simpa using h)]; exact Nat.le_refl _
  | k + 1, u, h => by
    by_cases h1 : u < 10
    · rw [Lib.nDigits_small h1]; omega
    · rw [Lib.nDigits_big h1]
      have := nd_le k (u / 10) (by rw [Nat.pow_succ] at h; omega)
      omega
theorem itoa_len (n : Int) (h0 : 0 ≤ n) (h1 : n ≤ 1099511627776) : (Lib.itoa n).length ≤ 13 := by
  rw [Lib.itoa, if_neg (by omega), Lib.decDigits_length]
  exact nd_le 12 _ (by omega)

set_option maxHeartbeats 2000000 in
set_option maxRecDepth 100000 in
theorem show_any (e : Ev.E) (w : World) (hf : Fit e) (ht : e.t.size ≤ 1000000) (hP : P10 w) : Calls Tryz.prog 144 #[evv e] w fun r w' => r = .returned (str (showv e)) ∧ Kept w w' := by
  have Hf := Lib.hid hf
  have HP := Lib.hid hP
  clear hf hP
  unfold evv
  go_enter Tryz.func144, Tryz.ntmps144
  go_wp2_with fail
  refine (evright_any e _ Hf.out).mono ?_
  rintro r w1 ⟨rfl, k1⟩
  have b1 := (Blk.made w (evc e) 23).kept k1
  have kw1 : Kept w w1 := (Kept.alloc (Kept.refl w) _).trans k1
  have BB := Lib.hid b1
  have KW1 := Lib.hid kw1
  have HP1 := Lib.hid (HP.out.kept kw1)
  clear b1 kw1 k1
  by_cases hr : Ev.right e = true
  · have Hs : Hid (showv e = Lib.itoa e.o ++ [58] ++ Lib.itoa e.s ++ [32] ++ e.t.data.toList ++ [32] ++ Lib.itoa e.l.size ++ [32] ++ Lib.itoa e.d) := by show _ = _; rw [showv, if_pos hr]
    rw [hr]
    have hri := (Ev.right_iff e).1 hr
    obtain ⟨⟨o0, o1⟩, ⟨s0, s1⟩, ⟨d0, d1⟩, hl, _⟩ := hri
    clear hr
    have c0 := BB.out.cell 0
    have c1 := BB.out.cell 1
    simp only [evc, List.getElem?_toArray, List.getElem?_cons_zero, List.getElem?_cons_succ] at c0 c1
    obtain ⟨A, hA, sA, lA⟩ := name_row (Lib.itoa e.o)
    obtain ⟨B, hB, sB, lB⟩ := name_row (Lib.itoa e.s)
    have zA := itoa_len e.o o0 o1
    have zB := itoa_len e.s (by omega) s1
    rw [← sA] at zA
    rw [← sB] at zB
    have ca : ∀ p : KW w1, Calls Tryz.prog 109 #[.int .i64 e.o] p.v fun r w' => r = .returned (.string A) ∧ Kept p.v w' := fun p => by
      have := itoa_any e.o p.v (by omega) (by omega) (HP1.out.kept p.h)
      rwa [hA] at this
    have cb : ∀ p : KW w1, Calls Tryz.prog 109 #[.int .i64 e.s] p.v fun r w' => r = .returned (.string B) ∧ Kept p.v w' := fun p => by
      have := itoa_any e.s p.v (by omega) (by omega) (HP1.out.kept p.h)
      rwa [hB] at this
    have CA := Lib.hid ca
    have CB := Lib.hid cb
    have LA := Lib.hid lA
    have LB := Lib.hid lB
    clear ca cb lA lB hA hB sA sB
    have t0 := KW.cell c0
    have t1 := KW.cell c1
    clear c0 c1
    go_wp2_with fail
    have nn : Nonempty (KW w1) := ⟨⟨w1, Kept.refl w1⟩⟩
    refine wp_region_kept (by kernel_rfl) (by kernel_rfl) ?_
    repeat (go_big_quiet_step ((go_at_call 109; first | (with_reducible exact KW.calls _ (CA.out _)) | (with_reducible exact KW.calls _ (CB.out _)))))
    refine wpQuiet_nil ?_
    intro w6 hw6
    have kk6 : Kept w1 w6 := by
      obtain ⟨p, rfl⟩ := hw6
      exact p.h
    clear hw6 nn t0 t1 CA CB
    have b6 := BB.out.kept kk6
    have K6 := Lib.hid (KW1.out.trans kk6)
    have HP6 := Lib.hid (HP1.out.kept kk6)
    clear kk6 BB KW1 HP1
    have hlt := b6.lt
    have B6 := Lib.hid b6
    clear b6
    obtain ⟨N, hN⟩ : ∃ N : ByteArray, N = A ++ ⟨#[58]⟩ ++ B := ⟨_, rfl⟩
    have hNs : N.size ≤ 27 := by rw [hN, ByteArray.size_append, ByteArray.size_append]; have : (ByteArray.mk #[58]).size = 1 := rfl; omega
    rw [← hN]
    have HN := Lib.hid hN
    clear hN
    obtain ⟨C, hC, sC, lC⟩ := name_row (Lib.itoa e.l.size)
    obtain ⟨D, hD, sD, lD⟩ := name_row (Lib.itoa e.d)
    have zC := itoa_len e.l.size (by omega) (by omega)
    have zD := itoa_len e.d (by omega) (by omega)
    rw [← sC] at zC
    rw [← sD] at zD
    have cc : ∀ W : World, P10 W → Calls Tryz.prog 109 #[.int .i64 (e.l.size : Int)] W fun r w' => r = .returned (.string C) ∧ Kept W w' := fun W hW => by
      have := itoa_any (e.l.size : Int) W (by omega) (by omega) hW
      rwa [hC] at this
    have cd : ∀ W : World, P10 W → Calls Tryz.prog 109 #[.int .i64 e.d] W fun r w' => r = .returned (.string D) ∧ Kept W w' := fun W hW => by
      have := itoa_any e.d W (by omega) (by omega) hW
      rwa [hD] at this
    have cj : ∀ W : World, Calls Tryz.prog 35 #[.slice (some ⟨W.heap.size, 0, none⟩) 4 4, .string ⟨#[32]⟩] (W.alloc (.cells #[.string N, .string e.t, .string C, .string D] 9)) fun r w' => r = .returned (.string ⟨(Lib.join [N.data.toList, e.t.data.toList, C.data.toList, D.data.toList] [32]).toArray⟩) ∧ Kept W w' := fun W => by
      have bW := Blk.made W #[.string N, .string e.t, .string C, .string D] 9
      refine (join_any W.heap.size 4 [N, e.t, C, D] ⟨#[32]⟩ _ ?_ bW.lt (by simp) (by simp) ?_).mono fun r w' ⟨h, k⟩ => ⟨h, ((Kept.refl W).alloc _).trans k⟩
      · intro j x hj
        rw [bW.cell j]
        match j, hj with
        | 0, hj => cases hj; rfl
        | 1, hj => cases hj; rfl
        | 2, hj => cases hj; rfl
        | 3, hj => cases hj; rfl
        | j + 4, hj => simp at hj
      · show (Lib.join [N.data.toList, e.t.data.toList, C.data.toList, D.data.toList] [32]).length ≤ _
        simp only [Lib.join, List.intercalate, List.intersperse, List.flatten_cons, List.flatten_nil, List.length_append, size_len, List.length_cons, List.length_nil]
        omega
    have CC := Lib.hid cc
    have CD := Lib.hid cd
    have CJ := Lib.hid cj
    have LC := Lib.hid lC
    have LD := Lib.hid lD
    clear cc cd cj lC lD hC hD sC sD
    have key : ∀ W, Kept w6 W → W.cell? ⟨w.heap.size, 2, none⟩ = some (.string e.t) ∧ W.cell? ⟨w.heap.size, 3, none⟩ = some (.string e.l) ∧ W.cell? ⟨w.heap.size, 4, none⟩ = some (.int .i64 e.d) ∧ P10 W := fun W k =>
      ⟨((B6.out.kept k).cell 2).trans rfl, ((B6.out.kept k).cell 3).trans rfl, ((B6.out.kept k).cell 4).trans rfl, HP6.out.kept k⟩
    have s6 := key w6.drew ((Kept.refl w6).drew)
    have KEY := Lib.hid key
    have p6 := s6.2.2.2
    clear key
    go_wp2_with fail
    go_region_held3 (fun w' => w'.cell? ⟨w.heap.size, 2, none⟩ = some (.string e.t) ∧ w'.cell? ⟨w.heap.size, 3, none⟩ = some (.string e.l) ∧ w'.cell? ⟨w.heap.size, 4, none⟩ = some (.int .i64 e.d) ∧ P10 w') (first | exact s6 | exact s7 | exact s8 | exact s9 | exact KEY.out _ (Kept.alloc k8 _))
      (first
        | (go_at_call 109; (with_reducible refine (CC.out _ p6).mono ?_); rintro r w7 ⟨rfl, k7'⟩
           have k7 : Kept w6 w7 := ((Kept.refl w6).drew).trans k7'
           have s7 := KEY.out _ k7
           have p7 := s7.2.2.2)
        | (go_at_call 109; (with_reducible refine (CD.out _ p7).mono ?_); rintro r w8 ⟨rfl, k8'⟩
           have k8 : Kept w6 w8 := k7.trans k8'
           have s8 := KEY.out _ k8)
        | (go_at_call 35; (with_reducible refine (CJ.out _).mono ?_); rintro r w9 ⟨rfl, k9'⟩
           have k9 : Kept w6 w9 := k8.trans k9'
           have s9 := KEY.out _ k9))
    go_wp2
    go_ret
    refine ⟨?_, K6.out.trans k9⟩
    rw [Hs.out]
    have e1 : Lib.join [N.data.toList, e.t.data.toList, C.data.toList, D.data.toList] [32] = Lib.itoa e.o ++ [58] ++ Lib.itoa e.s ++ [32] ++ e.t.data.toList ++ [32] ++ Lib.itoa ↑e.l.size ++ [32] ++ Lib.itoa e.d := by
      rw [HN.out, LC.out, LD.out]
      simp [Lib.join, List.intercalate, List.intersperse, ByteArray.data_append, LA.out, LB.out]
    show Ending.returned (.string ⟨(Lib.join [N.data.toList, e.t.data.toList, C.data.toList, D.data.toList] [32]).toArray⟩) = _
    rw [e1]
    rfl
  · have Hs : Hid (showv e = []) := by show _ = _; rw [showv, if_neg hr]
    rw [Bool.not_eq_true] at hr
    rw [hr]
    go_wp2
    go_ret
    exact ⟨by rw [Hs.out]; rfl, KW1.out⟩
end Go.Proofs.YtlfmpoinjbmjoaaGreatDoor
