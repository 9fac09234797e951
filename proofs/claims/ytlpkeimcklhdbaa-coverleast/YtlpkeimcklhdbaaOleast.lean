/-
  The least of some filters: the walks of Least's closure, Least, Diff, Lets, Holds.
-/
import Derived.Test.YtlpkeimcklhdbaaOpick
import Derived.Test.YtlpkeimcklhdbaaRquiet
namespace Go.Proofs.Ytlpkeimcklhdbaa
open Go.ChangeShapes Go.WideShapes Go.ChangeAt Go.RowKit

/-- what the closure tells: x stands at i, y at j -/
def lp (x y : List UInt8) (i j : Nat) : Bool := decide (i = j) || !Tp.covers y x || (decide (i < j) && Tp.covers x y)

set_option maxHeartbeats 2000000 in
set_option maxRecDepth 100000 in
theorem least1_any (b : Nat) (v : Value) (xs : List (List UInt8)) (w : World) (hb : Box w b v) (s : Strs w v xs) (hs : ∀ x ∈ xs, x.length ≤ 1000) (i j : Nat) (hi : i < xs.length) (hj : j < xs.length) :
    Calls Try.prog 31 #[.int .i64 i, .int .i64 j, .pointer (some ⟨b, 0, none⟩)] w fun e w' => e = .returned (.bool (lp xs[i] xs[j] i j)) ∧ Kept w w' := by
  obtain ⟨a1, cap1, rfl, _, _, hat⟩ := strs_get s
  obtain ⟨g, o, p, rfl, _, cp, lp1⟩ := hat i hi
  obtain ⟨g', o', q, hgo, _, cq, lq1⟩ := hat j hj
  cases hgo
  have sp : p.size ≤ 1000 := by rw [← str_size p, lp1]; exact hs _ (List.getElem_mem hi)
  have sq : q.size ≤ 1000 := by rw [← str_size q, lq1]; exact hs _ (List.getElem_mem hj)
  have Hd : Hid (lp xs[i] xs[j] i j = (decide (i = j) || !Tp.covers q.data.toList p.data.toList || (decide (i < j) && Tp.covers p.data.toList q.data.toList))) := by show _ = _; rw [lp1, lq1]; rfl
  have cb := hb.2
  clear hat lp1 lq1 s hb hs
  have t1 := KW.cell cb
  have t2 := KW.cell cp
  have t3 := KW.cell cq
  by_cases hij : i = j
  · subst hij
    have e0 : ((i : Int) == (i : Int)) = true := by simp
    go_enter Try.func31, Try.ntmps31
    go_wp2_with fail
    have nn : Nonempty (KW w) := ⟨⟨w, Kept.refl w⟩⟩
    refine wp_region_kept (by kernel_rfl) (by kernel_rfl) ?_
    repeat (go_big_quiet_step (fail))
    refine wpQuiet_nil ?_
    intro w6 hw6
    have k6 : Kept w w6 := by
      obtain ⟨p, rfl⟩ := hw6
      exact p.h
    clear hw6 nn t1 t2 t3
    go_wp2
    go_ret
    exact ⟨by rw [Hd.out]; simp, k6⟩
  · have e0 : ((i : Int) == (j : Int)) = false := by rw [beq_eq_false_iff_ne]; omega
    have d0 : decide (i = j) = false := decide_eq_false hij
    rw [d0] at Hd
    have ca : ∀ x : KW w, Calls Try.prog 32 #[.string q, .string p] x.v fun e w' => e = .returned (.bool (Tp.covers q.data.toList p.data.toList)) ∧ Kept x.v w' := fun x => covers_any q p x.v (by omega) (by omega)
    have CA := Lib.hid ca
    clear ca
    cases hc : Tp.covers q.data.toList p.data.toList with
    | false =>
      rw [hc] at Hd CA
      clear hc
      go_enter Try.func31, Try.ntmps31
      go_wp2_with fail
      have nn : Nonempty (KW w) := ⟨⟨w, Kept.refl w⟩⟩
      refine wp_region_kept (by kernel_rfl) (by kernel_rfl) ?_
      repeat (go_big_quiet_step ((go_at_call 32; exact KW.calls _ (CA.out _))))
      refine wpQuiet_nil ?_
      intro w6 hw6
      have k6 : Kept w w6 := by
        obtain ⟨p, rfl⟩ := hw6
        exact p.h
      clear hw6 nn t1 t2 t3
      go_wp2
      go_ret
      exact ⟨by rw [Hd.out]; simp, k6⟩
    | true =>
      rw [hc] at Hd CA
      clear hc
      go_enter Try.func31, Try.ntmps31
      go_wp2_with fail
      have nn : Nonempty (KW w) := ⟨⟨w, Kept.refl w⟩⟩
      refine wp_region_kept (by kernel_rfl) (by kernel_rfl) ?_
      repeat (go_big_quiet_step ((go_at_call 32; exact KW.calls _ (CA.out _))))
      refine wpQuiet_nil ?_
      intro w6 hw6
      have k6 : Kept w w6 := by
        obtain ⟨p, rfl⟩ := hw6
        exact p.h
      have u1 := KW.cell ((Below.cell k6 (p := ⟨b, 0, none⟩) (World.block_lt_of_cell? w _ cb)).trans cb)
      have u2 := KW.cell ((Below.cell k6 (p := ⟨g, o + i, none⟩) (World.block_lt_of_cell? w _ cp)).trans cp)
      have u3 := KW.cell ((Below.cell k6 (p := ⟨g, o + j, none⟩) (World.block_lt_of_cell? w _ cq)).trans cq)
      clear hw6 nn t1 t2 t3 CA cb cp cq e0
      by_cases hlt : i < j
      · have d1 : decide (i < j) = true := decide_eq_true hlt
        rw [d1] at Hd
        have e1 : decide ((i : Int) < (j : Int)) = true := decide_eq_true (by omega)
        have cc : ∀ x : KW w6, Calls Try.prog 32 #[.string p, .string q] x.v fun e w' => e = .returned (.bool (Tp.covers p.data.toList q.data.toList)) ∧ Kept x.v w' := fun x => covers_any p q x.v (by omega) (by omega)
        have CC := Lib.hid cc
        clear cc d1 d0
        go_wp2_with fail
        have nn : Nonempty (KW w6) := ⟨⟨w6, Kept.refl w6⟩⟩
        refine wp_region_kept (by kernel_rfl) (by kernel_rfl) ?_
        repeat (go_big_quiet_step ((go_at_call 32; exact KW.calls _ (CC.out _))))
        refine wpQuiet_nil ?_
        intro w7 hw7
        have k7 : Kept w6 w7 := by
          obtain ⟨p, rfl⟩ := hw7
          exact p.h
        clear hw7 nn u1 u2 u3
        go_wp2
        go_ret
        exact ⟨by rw [Hd.out]; simp, k6.trans k7⟩
      · have d1 : decide (i < j) = false := decide_eq_false hlt
        rw [d1] at Hd
        have e1 : ¬ (i < j) := hlt
        clear d1 d0
        go_wp2_with fail
        have nn : Nonempty (KW w6) := ⟨⟨w6, Kept.refl w6⟩⟩
        refine wp_region_kept (by kernel_rfl) (by kernel_rfl) ?_
        repeat (go_big_quiet_step (fail))
        refine wpQuiet_nil ?_
        intro w7 hw7
        have k7 : Kept w6 w7 := by
          obtain ⟨p, rfl⟩ := hw7
          exact p.h
        clear hw7 nn u1 u2 u3
        go_wp2
        go_ret
        exact ⟨by rw [Hd.out]; simp, k6.trans k7⟩

theorem lp_stays {c : List (List UInt8)} (h : Tp.Ord c) (i j : Nat) (hi : i < c.length) (hj : j < c.length) : lp c[i] c[j] i j = Tp.stays c[i] c[j] := by
  have h1 : decide (i = j) = (c[i] == c[j]) := by
    rw [Bool.eq_iff_iff, decide_eq_true_eq, beq_iff_eq]
    constructor
    · rintro rfl; rfl
    · intro e
      rcases Nat.lt_trichotomy i j with q | q | q
      · have := List.pairwise_iff_getElem.1 h i j hi hj q; rw [e, Tp.less_irrefl] at this; cases this
      · exact q
      · have := List.pairwise_iff_getElem.1 h j i hj hi q; rw [e, Tp.less_irrefl] at this; cases this
  have h2 : decide (i < j) = Tp.less c[i] c[j] := by
    rcases Nat.lt_trichotomy i j with q | q | q
    · rw [List.pairwise_iff_getElem.1 h i j hi hj q, decide_eq_true q]
    · subst q; rw [Tp.less_irrefl, decide_eq_false (Nat.lt_irrefl _)]
    · rw [Tp.less_asymm (List.pairwise_iff_getElem.1 h j i hj hi q), decide_eq_false (by omega)]
  unfold lp Tp.stays
  rw [h1, h2]
theorem clean_short {xs : List (List UInt8)} (hs : ∀ x ∈ xs, x.length ≤ 1000) : ∀ x ∈ Tp.clean xs, x.length ≤ 1000 := fun x hx => hs x ((Tp.clean_mem xs x).1 hx).1

set_option maxHeartbeats 2000000 in
set_option maxRecDepth 100000 in
theorem Least_any (v : Value) (xs : List (List UInt8)) (w : World) (hS : Strs w v xs) (hl : xs.length ≤ 1000) (hs : ∀ x ∈ xs, x.length ≤ 1000) :
    Calls Try.prog 12 #[v] w fun e w' => ∃ v', e = .returned v' ∧ OwnS w' w.heap.size v' (Tp.least xs) ∧ Kept w w' := by
  have eg : ∀ args w, (callFunc 31 args).run Try.prog w = .ok (.enter 31 args) w := enters_of Try.func31 (by kernel_rfl) rfl
  have HS := Lib.hid hs
  have C0 := Lib.hid (filters_any v xs w hS hl hs)
  clear hs hS
  go_enter Try.func12, Try.ntmps12
  go_wp2_with fail
  refine C0.out.mono ?_
  rintro e w1 ⟨v1, rfl, o1, k1⟩
  have hcl := Tp.clean_len xs
  obtain ⟨a1, cap1, rfl, hc1, hc2, _⟩ := strs_get o1.strs
  unfold maxLen at hc2
  have Hst := Lib.hid o1.strs
  clear o1
  go_wp2_with fail
  have kb : Kept w1 (w1.alloc (.cells #[.slice a1 (Tp.clean xs).length cap1] 22)) := Kept.alloc (Kept.refl w1) _
  have bx : Box (w1.alloc (.cells #[.slice a1 (Tp.clean xs).length cap1] 22)) w1.heap.size (.slice a1 (Tp.clean xs).length cap1) := ⟨by simp, by simp⟩
  generalize w1.alloc (.cells #[.slice a1 (Tp.clean xs).length cap1] 22) = w2 at kb bx ⊢
  have hst := Hst.out.kept kb
  refine (pick_any _ _ w2 hst (by omega) (Tp.clean xs).length (by omega) 31 #[.pointer (some ⟨w1.heap.size, 0, none⟩)] eg (fun i j => if hi : i < (Tp.clean xs).length then if hj : j < (Tp.clean xs).length then lp (Tp.clean xs)[i] (Tp.clean xs)[j] i j else true else true)
    (fun W i j kW hi hj => by
      rw [dif_pos hi, dif_pos hj]
      exact least1_any _ _ _ W (bx.kept kW) (hst.kept kW) (clean_short HS.out) i j hi hj)
    (fun x => (Tp.clean xs).all fun y => Tp.stays x y)
    (fun i hi h => by
      rw [List.all_eq_true]
      intro y hy
      obtain ⟨j, hj, rfl⟩ := List.getElem_of_mem hy
      have := h j hj
      rw [dif_pos hi, dif_pos hj, lp_stays (Tp.clean_ord xs)] at this
      exact this)
    (fun i hi j hj h => by
      rw [dif_pos hi, dif_pos hj, lp_stays (Tp.clean_ord xs)] at h
      rw [← Bool.not_eq_true, List.all_eq_true]
      intro q
      rw [q _ (List.getElem_mem hj)] at h
      cases h)).mono ?_
  rintro e w3 ⟨v3, rfl, o3, k3⟩
  go_wp2
  go_ret
  exact ⟨_, rfl, o3.mono (Nat.le_trans k1.size kb.size), (k1.trans kb).trans k3⟩

theorem wout_all (ys : List (List UInt8)) (x : List UInt8) : (ys.all fun y => x != y) = true ↔ ∀ j (h : j < ys.length), (x != ys[j]) = true := by
  rw [List.all_eq_true]
  exact ⟨fun h j hj => h _ (List.getElem_mem hj), fun h y hy => by obtain ⟨j, hj, rfl⟩ := List.getElem_of_mem hy; exact h j hj⟩

set_option maxHeartbeats 4000000 in
set_option maxRecDepth 100000 in
theorem Diff_any (v1 v2 : Value) (xs ys : List (List UInt8)) (w : World) (hS1 : Strs w v1 xs) (hS2 : Strs w v2 ys) (lx : xs.length ≤ 1000) (ly : ys.length ≤ 1000) (sx : ∀ x ∈ xs, x.length ≤ 1000) (sy : ∀ x ∈ ys, x.length ≤ 1000) :
    Calls Try.prog 17 #[v1, v2] w fun e w' => ∃ c g, e = .returned (.tuple #[c, g]) ∧ OwnS w' w.heap.size c (Tp.wout (Tp.clean ys) (Tp.clean xs)) ∧ OwnS w' w.heap.size g (Tp.wout (Tp.clean xs) (Tp.clean ys)) ∧ Kept w w' := by
  have eg1 : ∀ args w, (callFunc 35 args).run Try.prog w = .ok (.enter 35 args) w := enters_of Try.func35 (by kernel_rfl) rfl
  have eg2 : ∀ args w, (callFunc 36 args).run Try.prog w = .ok (.enter 36 args) w := enters_of Try.func36 (by kernel_rfl) rfl
  have C1 := Lib.hid (filters_any v1 xs w hS1 lx sx)
  have C2 := Lib.hid (fun W (k : Kept w W) => filters_any v2 ys W (hS2.kept k) ly sy)
  clear hS1 hS2 sx sy
  go_enter Try.func17, Try.ntmps17
  go_wp2_with fail
  refine C1.out.mono ?_
  rintro e w1 ⟨u1, rfl, o1, k1⟩
  go_wp2_with fail
  refine (C2.out w1 k1).mono ?_
  rintro e w2 ⟨u2, rfl, o2, k2⟩
  have hx := Tp.clean_len xs
  have hy := Tp.clean_len ys
  have O1 := o1.kept k2
  obtain ⟨a1, cap1, rfl, _, hc1, _⟩ := strs_get O1.strs
  obtain ⟨a2, cap2, rfl, _, hc2, _⟩ := strs_get o2.strs
  unfold maxLen at hc1 hc2
  have H1 := Lib.hid O1.strs
  have H2 := Lib.hid o2.strs
  have K2 := k1.trans k2
  clear o1 o2 O1 k1 k2 C1 C2
  go_wp2_with fail
  have ka : Kept w2 ((w2.alloc (.cells #[.slice a1 (Tp.clean xs).length cap1] 22)).alloc (.cells #[.slice a2 (Tp.clean ys).length cap2] 22)) := Kept.alloc (Kept.alloc (Kept.refl w2) _) _
  have b1 : Box ((w2.alloc (.cells #[.slice a1 (Tp.clean xs).length cap1] 22)).alloc (.cells #[.slice a2 (Tp.clean ys).length cap2] 22)) w2.heap.size (.slice a1 (Tp.clean xs).length cap1) := ⟨by simp <;> omega, by simp⟩
  have b2 : Box ((w2.alloc (.cells #[.slice a1 (Tp.clean xs).length cap1] 22)).alloc (.cells #[.slice a2 (Tp.clean ys).length cap2] 22)) (w2.heap.size + 1) (.slice a2 (Tp.clean ys).length cap2) := ⟨by simp, by
    have := Boxed.new (w2.alloc (.cells #[.slice a1 (Tp.clean xs).length cap1] 22)) 22 (.slice a2 (Tp.clean ys).length cap2)
    rw [World.size_alloc] at this
    exact this.cell⟩
  generalize (w2.alloc (.cells #[.slice a1 (Tp.clean xs).length cap1] 22)).alloc (.cells #[.slice a2 (Tp.clean ys).length cap2] 22) = w3 at ka b1 b2 ⊢
  have st1 := H1.out.kept ka
  have st2 := H2.out.kept ka
  refine (pick_any _ _ w3 st2 (by omega) (Tp.clean xs).length (by omega) 35 #[.pointer (some ⟨w2.heap.size + 1, 0, none⟩), .pointer (some ⟨w2.heap.size, 0, none⟩)] eg1 (fun i j => if hi : i < (Tp.clean ys).length then if hj : j < (Tp.clean xs).length then (Tp.clean ys)[i] != (Tp.clean xs)[j] else true else true)
    (fun W i j kW hi hj => by
      rw [dif_pos hi, dif_pos hj]
      exact diff1_any _ _ _ _ _ _ W (b2.kept kW) (b1.kept kW) (st2.kept kW) (st1.kept kW) i j hi hj)
    (fun x => (Tp.clean xs).all fun y => x != y)
    (fun i hi h => (wout_all _ _).2 fun j hj => by have := h j hj; rw [dif_pos hi, dif_pos hj] at this; exact this)
    (fun i hi j hj h => by
      rw [dif_pos hi, dif_pos hj] at h
      rw [← Bool.not_eq_true, wout_all]
      intro q
      rw [q j hj] at h
      cases h)).mono ?_
  rintro e w4 ⟨c, rfl, o4, k4⟩
  have c1 := (b1.kept k4).2
  have c2 := (b2.kept k4).2
  have Hc1 := Lib.hid (b1.kept k4)
  have Hc2 := Lib.hid (b2.kept k4)
  have T1 := Lib.hid (st1.kept k4)
  have T2 := Lib.hid (st2.kept k4)
  have O4 := Lib.hid o4
  clear o4 st1 st2 b1 b2 H1 H2
  go_wp2_with fail
  refine (pick_any _ _ w4 T1.out (by omega) (Tp.clean ys).length (by omega) 36 #[.pointer (some ⟨w2.heap.size, 0, none⟩), .pointer (some ⟨w2.heap.size + 1, 0, none⟩)] eg2 (fun i j => if hi : i < (Tp.clean xs).length then if hj : j < (Tp.clean ys).length then (Tp.clean xs)[i] != (Tp.clean ys)[j] else true else true)
    (fun W i j kW hi hj => by
      rw [dif_pos hi, dif_pos hj]
      exact diff2_any _ _ _ _ _ _ W (Hc1.out.kept kW) (Hc2.out.kept kW) (T1.out.kept kW) (T2.out.kept kW) i j hi hj)
    (fun x => (Tp.clean ys).all fun y => x != y)
    (fun i hi h => (wout_all _ _).2 fun j hj => by have := h j hj; rw [dif_pos hi, dif_pos hj] at this; exact this)
    (fun i hi j hj h => by
      rw [dif_pos hi, dif_pos hj] at h
      rw [← Bool.not_eq_true, wout_all]
      intro q
      rw [q j hj] at h
      cases h)).mono ?_
  rintro e w5 ⟨g, rfl, o5, k5⟩
  have K4 := (K2.trans ka).trans k4
  go_wp2
  go_ret2
  exact ⟨_, _, rfl, (O4.out.kept k5).mono (Nat.le_trans K2.size ka.size), o5.mono K4.size, K4.trans k5⟩

set_option maxHeartbeats 1000000 in
set_option maxRecDepth 100000 in
theorem Lets_any (v : Value) (xs : List (List UInt8)) (t : ByteArray) (w : World) (hS : Strs w v xs) (hl : xs.length ≤ 1000) (hs : ∀ x ∈ xs, x.length ≤ 1000) (ht : t.size ≤ 1000) :
    Calls Try.prog 19 #[v, .string t] w fun e w' => e = .returned (.bool (Tp.lets xs t.data.toList)) ∧ Kept w w' := by
  obtain ⟨a, cap, rfl, hc1, hc2, hat⟩ := strs_get hS
  have HA := Lib.hid hat
  have HS := Lib.hid hs
  clear hat hs hS hc2
  go_enter Try.func19, Try.ntmps19
  go_wp2
  go_loopw [8] (fun i wr => ∃ k : Nat, k ≤ xs.length ∧ i = .int .i64 k ∧ (xs.take k).any (fun x => Tp.match_ x t.data.toList) = false ∧ Kept w wr) (fun i _ => xs.length - (intOf i).toNat)
  case atStart => exact ⟨0, Nat.zero_le _, rfl, rfl, Kept.refl _⟩
  case round =>
    obtain ⟨k, hk, rfl, hno, kr⟩ := hrel
    have HN := Lib.hid hno
    clear hno
    by_cases hlt : k < xs.length
    · obtain ⟨b, off, p, rfl, hb, hc, lp⟩ := HA.out k hlt
      have hck := (Below.cell kr (p := ⟨b, off + k, none⟩) hb).trans hc
      have hps : p.size ≤ 1000 := by rw [← str_size p, lp]; exact HS.out _ (List.getElem_mem hlt)
      have LP := Lib.hid lp
      clear hc lp
      go_wp2_with fail
      refine (match_any p t _ (by omega) (by omega)).mono ?_
      rintro e w1 ⟨rfl, k1⟩
      cases hm : Tp.match_ p.data.toList t.data.toList with
      | true =>
        have Hy : Hid (Tp.lets xs t.data.toList = true) := (Tp.lets_iff _ _).2 ⟨_, List.getElem_mem hlt, by rw [← LP.out]; exact hm⟩
        clear hm
        go_wp2
        go_ret
        exact ⟨by rw [Hy.out]; rfl, kr.trans k1⟩
      | false =>
        have Hn : Hid ((xs.take (k + 1)).any (fun x => Tp.match_ x t.data.toList) = false) := by
          show _ = _
          rw [List.take_add_one, List.getElem?_eq_getElem hlt, List.any_append, HN.out]
          simp [← LP.out, hm]
        clear hm
        go_wp2
        go_roundw
        case rel => exact ⟨k + 1, by omega, by go_num, Hn.out, kr.trans k1⟩
        case measure => simp [intOf]; omega
    · have hke : k = xs.length := by omega
      subst hke
      go_wp2
      go_ret
      refine ⟨?_, kr⟩
      have := HN.out
      rw [List.take_length] at this
      rw [Tp.lets, this]
      rfl

set_option maxHeartbeats 1000000 in
set_option maxRecDepth 100000 in
theorem Holds_any (v : Value) (xs : List (List UInt8)) (t : ByteArray) (w : World) (hS : Strs w v xs) (hl : xs.length ≤ 1000) (hs : ∀ x ∈ xs, x.length ≤ 1000) (ht : t.size ≤ 1000) :
    Calls Try.prog 21 #[v, .string t] w fun e w' => e = .returned (.bool (Tp.holds xs t.data.toList)) ∧ Kept w w' := by
  obtain ⟨a, cap, rfl, hc1, hc2, hat⟩ := strs_get hS
  have HA := Lib.hid hat
  have HS := Lib.hid hs
  clear hat hs hS hc2
  go_enter Try.func21, Try.ntmps21
  go_wp2
  go_loopw [8] (fun i wr => ∃ k : Nat, k ≤ xs.length ∧ i = .int .i64 k ∧ (xs.take k).any (fun x => Tp.covers x t.data.toList) = false ∧ Kept w wr) (fun i _ => xs.length - (intOf i).toNat)
  case atStart => exact ⟨0, Nat.zero_le _, rfl, rfl, Kept.refl _⟩
  case round =>
    obtain ⟨k, hk, rfl, hno, kr⟩ := hrel
    have HN := Lib.hid hno
    clear hno
    by_cases hlt : k < xs.length
    · obtain ⟨b, off, p, rfl, hb, hc, lp⟩ := HA.out k hlt
      have hck := (Below.cell kr (p := ⟨b, off + k, none⟩) hb).trans hc
      have hps : p.size ≤ 1000 := by rw [← str_size p, lp]; exact HS.out _ (List.getElem_mem hlt)
      have LP := Lib.hid lp
      clear hc lp
      go_wp2_with fail
      refine (covers_any p t _ (by omega) (by omega)).mono ?_
      rintro e w1 ⟨rfl, k1⟩
      cases hm : Tp.covers p.data.toList t.data.toList with
      | true =>
        have Hy : Hid (Tp.holds xs t.data.toList = true) := (Tp.holds_iff _ _).2 ⟨_, List.getElem_mem hlt, by rw [← LP.out]; exact hm⟩
        clear hm
        go_wp2
        go_ret
        exact ⟨by rw [Hy.out]; rfl, kr.trans k1⟩
      | false =>
        have Hn : Hid ((xs.take (k + 1)).any (fun x => Tp.covers x t.data.toList) = false) := by
          show _ = _
          rw [List.take_add_one, List.getElem?_eq_getElem hlt, List.any_append, HN.out]
          simp [← LP.out, hm]
        clear hm
        go_wp2
        go_roundw
        case rel => exact ⟨k + 1, by omega, by go_num, Hn.out, kr.trans k1⟩
        case measure => simp [intOf]; omega
    · have hke : k = xs.length := by omega
      subst hke
      go_wp2
      go_ret
      refine ⟨?_, kr⟩
      have := HN.out
      rw [List.take_length] at this
      rw [Tp.holds, this]
      rfl
end Go.Proofs.Ytlpkeimcklhdbaa
