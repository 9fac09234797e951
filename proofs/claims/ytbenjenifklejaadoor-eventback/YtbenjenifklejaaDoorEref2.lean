/-
  The document's own: the walks of rivuletref06.Put, Digits, Show.
-/
import Derived.Test.YtbenjenifklejaaDoorEref
import Derived.Test.YtbenjenifklejaaDoorEshow
import Derived.Test.YtbenjenifklejaaDoorVref2
namespace Go.Proofs.YtbenjenifklejaaDoor
open Go.ChangeShapes Go.WideShapes Go.ChangeAt Go.RowKit

set_option maxHeartbeats 2000000 in
set_option maxRecDepth 100000 in
theorem rput_any (e : Ev.E) (w : World) (hf : Fit e) (ht : e.t.size ≤ 1000000) : Calls Tryd.prog 14 #[evv e] w fun r w' => r = .returned (str (Ev.put e)) ∧ Kept w w' := by
  have Hf := Lib.hid hf
  clear hf
  unfold evv
  go_enter Tryd.func14, Tryd.ntmps14
  go_wp2_with fail
  refine (rright_ev e _ Hf.out ht).mono ?_
  rintro r w1 ⟨rfl, k1⟩
  have b1 := (Blk.made w (evc e) 23).kept k1
  have kw1 : Kept w w1 := (Kept.alloc (Kept.refl w) _).trans k1
  have BB := Lib.hid b1
  have KW1 := Lib.hid kw1
  clear b1 kw1 k1
  by_cases hr : Ev.right e = true
  · have Hput : Hid (Ev.put e = Ev.bytes e) := by show _ = _; rw [Ev.put, if_pos hr]
    rw [hr]
    have hri := (Ev.right_iff e).1 hr
    obtain ⟨⟨o0, o1⟩, ⟨s0, s1⟩, ⟨d0, d1⟩, hl, _⟩ := hri
    clear hr
    have c0 := BB.out.cell 0
    have c1 := BB.out.cell 1
    have c2 := BB.out.cell 2
    have c3 := BB.out.cell 3
    have c4 := BB.out.cell 4
    simp only [evc, List.getElem?_toArray, List.getElem?_cons_zero, List.getElem?_cons_succ] at c0 c1 c2 c3 c4
    obtain ⟨A, hA, sA, lA⟩ := name_put e.o.toNat
    obtain ⟨B, hB, sB, lB⟩ := name_put e.s.toNat
    obtain ⟨C, hC, sC, lC⟩ := name_put e.d.toNat
    obtain ⟨T1, hT1, sT1, lT1⟩ := name_row (Vn.vput e.t.size ++ e.t.data.toList)
    obtain ⟨T2, hT2, sT2, lT2⟩ := name_row (Vn.vput e.l.size ++ e.l.data.toList)
    have zA := Vn.vsz_pos e.o.toNat
    have zB := Vn.vsz_pos e.s.toNat
    have zC := Vn.vsz_pos e.d.toNat
    have z1 := Vn.vsz_pos e.t.size
    have z2 := Vn.vsz_pos e.l.size
    rw [List.length_append, Vn.vput_length, size_len] at sT1 sT2
    rw [← sA] at zA
    rw [← sB] at zB
    rw [← sC] at zC
    have q1 : T1.size ≤ 1000009 := by omega
    have q2 : T2.size ≤ 73 := by omega
    have ca : ∀ p : KW w1, Calls Tryd.prog 38 #[.int .u64 e.o] p.v fun r w' => r = .returned (.string A) ∧ Kept p.v w' := fun p => by
      have := refput_any e.o p.v o0 (by omega)
      rwa [hA] at this
    have cb : ∀ p : KW w1, Calls Tryd.prog 38 #[.int .u64 e.s] p.v fun r w' => r = .returned (.string B) ∧ Kept p.v w' := fun p => by
      have := refput_any e.s p.v (by omega) (by omega)
      rwa [hB] at this
    have cc : ∀ p : KW w1, Calls Tryd.prog 38 #[.int .u64 e.d] p.v fun r w' => r = .returned (.string C) ∧ Kept p.v w' := fun p => by
      have := refput_any e.d p.v (by omega) (by omega)
      rwa [hC] at this
    have cd : ∀ p : KW w1, Calls Tryd.prog 39 #[.string e.t] p.v fun r w' => r = .returned (.string T1) ∧ Kept p.v w' := fun p => by
      have := reftext_any e.t p.v (by omega)
      rwa [hT1] at this
    have ce : ∀ p : KW w1, Calls Tryd.prog 39 #[.string e.l] p.v fun r w' => r = .returned (.string T2) ∧ Kept p.v w' := fun p => by
      have := reftext_any e.l p.v (by omega)
      rwa [hT2] at this
    have CA := Lib.hid ca
    have CB := Lib.hid cb
    have CC := Lib.hid cc
    have CD := Lib.hid cd
    have CE := Lib.hid ce
    have LA := Lib.hid lA
    have LB := Lib.hid lB
    have LC := Lib.hid lC
    have L1 := Lib.hid lT1
    have L2 := Lib.hid lT2
    have u1 : IntKind.u64.wrap e.o = e.o := by simp [IntKind.wrap, IntKind.signed, IntKind.bits]; omega
    have u2 : IntKind.u64.wrap e.s = e.s := by simp [IntKind.wrap, IntKind.signed, IntKind.bits]; omega
    have u3 : IntKind.u64.wrap e.d = e.d := by simp [IntKind.wrap, IntKind.signed, IntKind.bits]; omega
    have hs0 : 0 ≤ e.s := by omega
    clear ca cb cc cd ce lA lB lC lT1 lT2 hA hB hC hT1 hT2 sA sB sC sT1 sT2
    have t0 := KW.cell c0
    have t1 := KW.cell c1
    have t2 := KW.cell c2
    have t3 := KW.cell c3
    have t4 := KW.cell c4
    clear c0 c1 c2 c3 c4
    go_wp2_with fail
    have nn : Nonempty (KW w1) := ⟨⟨w1, Kept.refl w1⟩⟩
    refine wp_region_kept (by kernel_rfl) (by kernel_rfl) ?_
    repeat (go_big_quiet_step ((first
      | (go_at_call 38; first | (with_reducible exact KW.calls _ (CA.out _)) | (with_reducible exact KW.calls _ (CB.out _)) | (with_reducible exact KW.calls _ (CC.out _)))
      | (go_at_call 39; first | (with_reducible exact KW.calls _ (CD.out _)) | (with_reducible exact KW.calls _ (CE.out _))))))
    refine wpQuiet_nil ?_
    intro w6 hw6
    have kk6 : Kept w1 w6 := by
      obtain ⟨p, rfl⟩ := hw6
      exact p.h
    clear hw6 nn t0 t1 t2 t3 t4 u1 u2 u3
    go_wp2
    go_ret
    refine ⟨?_, KW1.out.trans kk6⟩
    rw [Hput.out, bytes_eq]
    show Ending.returned (.string (A ++ B ++ C ++ T1 ++ T2)) = _
    congr 2
    apply ByteArray.ext
    apply Array.toList_inj.1
    simp only [ByteArray.data_append, Array.toList_append, L1.out, L2.out, nums3, ← toList_eq A, ← toList_eq B, ← toList_eq C, LA.out, LB.out, LC.out]
    simp
  · have Hput : Hid (Ev.put e = []) := by show _ = _; rw [Ev.put, if_neg hr]
    rw [Bool.not_eq_true] at hr
    rw [hr]
    go_wp2
    go_ret
    exact ⟨by rw [Hput.out]; rfl, KW1.out⟩

theorem conv_dig (W : World) (b : UInt8) (v : Value) (hv : v = .int .u8 b.toNat) :
    (convert 83 9 (.slice (some ⟨W.heap.size, 0, none⟩) 1 1)).run Tryd.prog (W.alloc (.cells #[v] 5)) = .ok (.string ⟨#[b]⟩) (W.alloc (.cells #[v] 5)) := by
  subst hv
  refine run_convert_bytes_back _ _ _ 5 _ _ [b] Tryd.underlying83 Tryd.underlying5 Tryd.underlying9 fun j hj => ?_
  have hadd : (⟨W.heap.size, 0, none⟩ : Addr).add j = ⟨W.heap.size, j, none⟩ := by unfold Addr.add; split <;> simp_all
  have hj0 : j = 0 := by simpa using hj
  subst hj0
  rw [hadd, World.cell?_alloc_at _ _ _ _ rfl]
  rfl

set_option maxHeartbeats 1000000 in
set_option maxRecDepth 100000 in
theorem digits_any : ∀ (k n : Nat) (w : World), n < 10 ^ (k + 1) → k ≤ 14 → Calls Tryd.prog 42 #[.int .i64 n] w fun r w' => r = .returned (str (Lib.decDigits n)) ∧ Kept w w'
  | k, n, w, h, hk => by
    have hpow : 10 ^ (k + 1) ≤ 10 ^ 15 := Nat.pow_le_pow_right (by decide) (by omega)
    have hn : n ≤ 1000000000000000 := by omega
    obtain ⟨b, hb⟩ : ∃ b : UInt8, b = UInt8.ofNat (48 + n % 10) := ⟨_, rfl⟩
    have hbv : (Value.int .u8 (48 + (n : Int) % 10)) = .int .u8 b.toNat := by
      congr 1
      rw [hb, UInt8.toNat_ofNat']
      omega
    have cv := conv_dig w b _ hbv
    have Hb := Lib.hid hb
    have Hbv := Lib.hid hbv
    clear hb hpow hbv
    by_cases h10 : n < 10
    · have HD : Hid (Lib.decDigits n = [b]) := by
        show _ = _
        rw [Lib.decDigits_one h10, Hb.out, Nat.mod_eq_of_lt h10]
      go_enter Tryd.func42, Tryd.ntmps42
      go_wp2
      go_ret
      exact ⟨by rw [HD.out]; rfl, (Kept.refl w).alloc _⟩
    · have HD : Hid (Lib.decDigits n = Lib.decDigits (n / 10) ++ [b]) := by
        show _ = _
        rw [Lib.decDigits, dif_neg h10, Hb.out]
      obtain ⟨Q, hQ, sQ, lQ⟩ := name_row (Lib.decDigits (n / 10))
      cases k with
      | zero => simp at h; omega
      | succ k =>
        have hrec : n / 10 < 10 ^ (k + 1) := by rw [Nat.pow_succ] at h; omega
        have hq : Q.size ≤ 15 := by
          rw [sQ, Lib.decDigits_length]
          exact Nat.le_trans (nd_le k _ hrec) (by omega)
        have cr : ∀ W : World, Calls Tryd.prog 42 #[.int .i64 ((n / 10 : Nat) : Int)] W fun r w' => r = .returned (.string Q) ∧ Kept W w' := fun W => by
          have := digits_any k (n / 10) W hrec (by omega)
          rwa [hQ] at this
        have CR := Lib.hid cr
        have LQ := Lib.hid lQ
        clear cr lQ hQ sQ h hrec
        go_enter Tryd.func42, Tryd.ntmps42
        go_wp2_with fail
        refine (CR.out _).mono ?_
        rintro r w1 ⟨rfl, k1⟩
        clear cv
        go_wp2
        go_ret
        refine ⟨?_, ((Kept.refl w).alloc _).trans k1⟩
        rw [HD.out]
        show Ending.returned (.string (Q ++ ⟨#[b]⟩)) = _
        congr 2
        apply ByteArray.ext
        apply Array.toList_inj.1
        rw [ByteArray.data_append, Array.toList_append, LQ.out]

theorem digits_of (n : Int) (w : World) (h0 : 0 ≤ n) (h1 : n ≤ 1099511627776) : Calls Tryd.prog 42 #[.int .i64 n] w fun r w' => r = .returned (str (Lib.itoa n)) ∧ Kept w w' := by
  obtain ⟨k, rfl⟩ := Int.eq_ofNat_of_zero_le h0
  have e : Lib.itoa (k : Int) = Lib.decDigits k := by rw [Lib.itoa, if_neg (by omega), Int.toNat_natCast]
  rw [e]
  exact digits_any 12 k w (by omega) (by omega)

set_option maxHeartbeats 2000000 in
set_option maxRecDepth 100000 in
theorem rshow_any (e : Ev.E) (w : World) (hf : Fit e) (ht : e.t.size ≤ 1000000) : Calls Tryd.prog 16 #[evv e] w fun r w' => r = .returned (str (showv e)) ∧ Kept w w' := by
  have Hf := Lib.hid hf
  clear hf
  unfold evv
  go_enter Tryd.func16, Tryd.ntmps16
  go_wp2_with fail
  refine (rright_ev e _ Hf.out ht).mono ?_
  rintro r w1 ⟨rfl, k1⟩
  have b1 := (Blk.made w (evc e) 23).kept k1
  have kw1 : Kept w w1 := (Kept.alloc (Kept.refl w) _).trans k1
  have BB := Lib.hid b1
  have KW1 := Lib.hid kw1
  clear b1 kw1 k1
  by_cases hr : Ev.right e = true
  · have Hs : Hid (showv e = Lib.itoa e.o ++ [58] ++ Lib.itoa e.s ++ [32] ++ e.t.data.toList ++ [32] ++ Lib.itoa e.l.size ++ [32] ++ Lib.itoa e.d) := by show _ = _; rw [showv, if_pos hr]
    rw [hr]
    have hri := (Ev.right_iff e).1 hr
    obtain ⟨⟨o0, o1⟩, ⟨s0, s1⟩, ⟨d0, d1⟩, hl, _⟩ := hri
    clear hr
    have c0 := BB.out.cell 0
    have c1 := BB.out.cell 1
    have c2 := BB.out.cell 2
    have c3 := BB.out.cell 3
    have c4 := BB.out.cell 4
    simp only [evc, List.getElem?_toArray, List.getElem?_cons_zero, List.getElem?_cons_succ] at c0 c1 c2 c3 c4
    obtain ⟨A, hA, sA, lA⟩ := name_row (Lib.itoa e.o)
    obtain ⟨B, hB, sB, lB⟩ := name_row (Lib.itoa e.s)
    obtain ⟨C, hC, sC, lC⟩ := name_row (Lib.itoa e.l.size)
    obtain ⟨D, hD, sD, lD⟩ := name_row (Lib.itoa e.d)
    have zA := itoa_len e.o o0 o1
    have zB := itoa_len e.s (by omega) s1
    have zC := itoa_len e.l.size (by omega) (by omega)
    have zD := itoa_len e.d (by omega) (by omega)
    rw [← sA] at zA
    rw [← sB] at zB
    rw [← sC] at zC
    rw [← sD] at zD
    have ca : ∀ p : KW w1, Calls Tryd.prog 42 #[.int .i64 e.o] p.v fun r w' => r = .returned (.string A) ∧ Kept p.v w' := fun p => by
      have := digits_of e.o p.v o0 o1
      rwa [hA] at this
    have cb : ∀ p : KW w1, Calls Tryd.prog 42 #[.int .i64 e.s] p.v fun r w' => r = .returned (.string B) ∧ Kept p.v w' := fun p => by
      have := digits_of e.s p.v (by omega) s1
      rwa [hB] at this
    have cc : ∀ p : KW w1, Calls Tryd.prog 42 #[.int .i64 (e.l.size : Int)] p.v fun r w' => r = .returned (.string C) ∧ Kept p.v w' := fun p => by
      have := digits_of e.l.size p.v (by omega) (by omega)
      rwa [hC] at this
    have cd : ∀ p : KW w1, Calls Tryd.prog 42 #[.int .i64 e.d] p.v fun r w' => r = .returned (.string D) ∧ Kept p.v w' := fun p => by
      have := digits_of e.d p.v (by omega) (by omega)
      rwa [hD] at this
    have CA := Lib.hid ca
    have CB := Lib.hid cb
    have CC := Lib.hid cc
    have CD := Lib.hid cd
    have LA := Lib.hid lA
    have LB := Lib.hid lB
    have LC := Lib.hid lC
    have LD := Lib.hid lD
    clear ca cb cc cd lA lB lC lD hA hB hC hD sA sB sC sD
    have t0 := KW.cell c0
    have t1 := KW.cell c1
    have t2 := KW.cell c2
    have t3 := KW.cell c3
    have t4 := KW.cell c4
    clear c0 c1 c2 c3 c4
    go_wp2_with fail
    have nn : Nonempty (KW w1) := ⟨⟨w1, Kept.refl w1⟩⟩
    refine wp_region_kept (by kernel_rfl) (by kernel_rfl) ?_
    repeat (go_big_quiet_step ((go_at_call 42; first | (with_reducible exact KW.calls _ (CA.out _)) | (with_reducible exact KW.calls _ (CB.out _)) | (with_reducible exact KW.calls _ (CC.out _)) | (with_reducible exact KW.calls _ (CD.out _)))))
    refine wpQuiet_nil ?_
    intro w6 hw6
    have kk6 : Kept w1 w6 := by
      obtain ⟨p, rfl⟩ := hw6
      exact p.h
    clear hw6 nn t0 t1 t2 t3 t4
    go_wp2
    go_ret
    refine ⟨?_, KW1.out.trans kk6⟩
    rw [Hs.out]
    show Ending.returned (.string (A ++ ⟨#[58]⟩ ++ B ++ ⟨#[32]⟩ ++ e.t ++ ⟨#[32]⟩ ++ C ++ ⟨#[32]⟩ ++ D)) = _
    congr 2
    apply ByteArray.ext
    apply Array.toList_inj.1
    simp only [ByteArray.data_append, Array.toList_append, LA.out, LB.out, LC.out, LD.out]
  · have Hs : Hid (showv e = []) := by show _ = _; rw [showv, if_neg hr]
    rw [Bool.not_eq_true] at hr
    rw [hr]
    go_wp2
    go_ret
    exact ⟨by rw [Hs.out]; rfl, KW1.out⟩
end Go.Proofs.YtbenjenifklejaaDoor
