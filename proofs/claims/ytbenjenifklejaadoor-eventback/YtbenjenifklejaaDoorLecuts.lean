/-
  The walk of the law EventCuts.
-/
import Derived.Test.YtbenjenifklejaaDoorLemarks
import Derived.Test.YtbenjenifklejaaDoorVbits
namespace Go.Proofs.YtbenjenifklejaaDoor
open Go.ChangeShapes Go.WideShapes Go.ChangeAt Go.RowKit

theorem bytes_len (e : Ev.E) : (Ev.bytes e).length ≤ 45 + e.t.size + e.l.size := by
  rw [bytes_eq]
  have h1 := Vn.vsz_pos e.o.toNat
  have h2 := Vn.vsz_pos e.s.toNat
  have h3 := Vn.vsz_pos e.d.toNat
  have h4 := Vn.vsz_pos e.t.size
  have h5 := Vn.vsz_pos e.l.size
  have l1 := size_len e.t
  have l2 := size_len e.l
  simp only [nums3, List.take, List.map_cons, List.map_nil, List.flatten_cons, List.flatten_nil, List.length_append, List.length_nil, Vn.vput_length, l1, l2]
  omega
theorem mits_len : ∀ l : List Ev.M, ((Ev.mits l).flatMap Ev.iput).length ≤ 18 * l.length
  | [] => by simp [Ev.mits]
  | m :: l => by
    have ih := mits_len l
    rw [Ev.mits] at ih
    have h1 := Vn.vsz_pos m.o.toNat
    have h2 := Vn.vsz_pos m.s.toNat
    rw [Ev.mits, List.flatMap_cons, List.flatMap_append, List.length_append, List.length_cons]
    simp only [List.flatMap_cons, List.flatMap_nil, Ev.iput, List.append_nil, List.length_append, Vn.vput_length]
    omega
theorem mbytes_len (l : List Ev.M) : (Ev.mbytes l).length ≤ 9 + 18 * l.length := by
  have h := mits_len l
  have h1 := Vn.vsz_pos l.length
  rw [Ev.mbytes, List.length_append, Vn.vput_length]
  omega
theorem extract_take (p : ByteArray) (j : Nat) : (p.extract 0 j).data.toList = p.data.toList.take j := by
  rw [ByteArray.data_extract, Array.toList_extract, List.extract_eq_take_drop]; simp

set_option maxHeartbeats 2000000 in
set_option maxRecDepth 100000 in
theorem ecuts_walk (a : Ev.E) (av : Option Addr) (cap : Nat) (ms : List Ev.M) (k : Int) (w : World) (ha : Came a) (hms : MkS w av cap ms) (_n1 : -9223372036854775808 ≤ k) (_n2 : k ≤ 9223372036854775807) (hT : Tab w) (hP : P10 w) (hF : Fixed) :
    Calls Tryd.prog 8 #[evv a, .slice av ms.length cap, .int .i64 k] w fun e w' => e = .returned (.bool true) ∧ Kept w w' := by
  have HA := Lib.hid ha
  have HT := Lib.hid hT
  have HP := Lib.hid hP
  have HF := Lib.hid hF
  obtain ⟨fa, ta, la⟩ := cutE_fit ha
  have ca := cut_ev a
  obtain ⟨A, hAe⟩ : ∃ A, A = cutE a := ⟨_, rfl⟩
  rw [← hAe] at fa ta la ca
  have FA := Lib.hid fa
  have CA := Lib.hid ca
  have hm := hms.take 40
  have hX := take40 ms
  have c1 := hms.cap1
  have c2 := hms.cap2
  obtain ⟨n, hn⟩ : ∃ n, n = ms.length := ⟨_, rfl⟩
  rw [← hn] at hX c1 ⊢
  obtain ⟨m, hmm⟩ : ∃ m, m = ms.take 40 := ⟨_, rfl⟩
  have hml : m.length ≤ 40 := by rw [hmm, List.length_take]; omega
  rw [← hmm] at hm hX
  have HM := Lib.hid hm
  have HX := Lib.hid hX
  have hK : 0 ≤ bits BinOp.and IntKind.i64 k 65535 ∧ bits BinOp.and IntKind.i64 k 65535 ≤ 65535 := and_mask k 65535 (by decide)
  obtain ⟨hK0, hK1⟩ := hK
  clear hAe ca fa ha hT hP hF hn hmm hm hX hms
  unfold evv
  go_enter Tryd.func8, Tryd.ntmps8
  go_wp2_with fail
  have bx := Blk.made w (evc a) 23
  have k0 : Kept w (w.alloc (.cells (evc a) 23)) := (Kept.refl w).alloc _
  refine (CA.out _ HA.out).mono ?_
  rintro r w1 ⟨rfl, k1⟩
  have bx1 := bx.kept k1
  have k01 := k0.trans k1
  have x0 := bx1.cell 0
  have x1 := bx1.cell 1
  have x2 := bx1.cell 2
  have x3 := bx1.cell 3
  have x4 := bx1.cell 4
  have xf0 := bx1.frozen 0
  have xf1 := bx1.frozen 1
  have xf2 := bx1.frozen 2
  have xf3 := bx1.frozen 3
  have xf4 := bx1.frozen 4
  simp only [evc, List.getElem?_toArray, List.getElem?_cons_zero, List.getElem?_cons_succ] at x0 x1 x2 x3 x4
  have BX := Lib.hid bx1
  clear bx bx1 k0 k1
  unfold evv
  go_wp2_with fail
  have b2 := set_ev w.heap.size w1 a A BX.out
  have k2 := set_kept w.heap.size w w1 (.int .i64 A.o) (.int .i64 A.s) (.string A.t) (.string A.l) (.int .i64 A.d) k01 (Nat.le_refl _)
  obtain ⟨w2, hw2⟩ : ∃ w2, w2 = ((((w1.setCell ⟨w.heap.size, 0, none⟩ (.int .i64 A.o)).setCell ⟨w.heap.size, 1, none⟩ (.int .i64 A.s)).setCell ⟨w.heap.size, 2, none⟩ (.string A.t)).setCell ⟨w.heap.size, 3, none⟩ (.string A.l)).setCell ⟨w.heap.size, 4, none⟩ (.int .i64 A.d) := ⟨_, rfl⟩
  rw [← hw2] at b2 k2 ⊢
  clear hw2 BX k01 x0 x1 x2 x3 x4 xf0 xf1 xf2 xf3 xf4
  rw [HX.out]
  obtain ⟨p, hp, sp, lp⟩ := name_row (Ev.put A)
  obtain ⟨q, hq, sq, lq⟩ := name_row (Ev.mput m)
  have v1 := fun W (h : Tab W) => evput_any A W FA.out (by omega) h
  have v2 := fun W (h : MkS W av cap m) (h' : Tab W) => marks_any av cap m W h h'
  have v3 := fun W => evright_any A W FA.out
  have v4 := fun W (h : MkS W av cap m) => sorted_any av cap m W h
  simp only [hp] at v1
  simp only [hq] at v2
  unfold evv at v1 v3
  have D1 := Lib.hid v1
  have D2 := Lib.hid v2
  have D3 := Lib.hid v3
  have D4 := Lib.hid v4
  have hpl : p.size ≤ 445 := by
    rw [sp, Ev.put]
    split
    · have := bytes_len A; omega
    · simp
  have hql : q.size ≤ 729 := by
    rw [sq, Ev.mput]
    split
    · have := mbytes_len m; omega
    · simp
  have Lp := Lib.hid lp
  have Lq := Lib.hid lq
  have Sp := Lib.hid sp
  have Sq := Lib.hid sq
  clear v1 v2 v3 v4 hp hq lp lq sp sq
  refine (D1.out _ (HT.out.kept k2)).mono ?_
  rintro r w3 ⟨rfl, k3⟩
  have k03 := k2.trans k3
  have b3 := b2.kept k3
  clear k2 k3 b2
  go_wp2_with fail
  refine (D2.out _ (HM.out.kept k03) (HT.out.kept k03)).mono ?_
  rintro r w4 ⟨rfl, k4⟩
  have k04 := k03.trans k4
  have b4 := b3.kept k4
  have B4 := Lib.hid b4
  have x0 := b4.cell 0
  have x1 := b4.cell 1
  have x2 := b4.cell 2
  have x3 := b4.cell 3
  have x4 := b4.cell 4
  simp only [evc, List.getElem?_toArray, List.getElem?_cons_zero, List.getElem?_cons_succ] at x0 x1 x2 x3 x4
  clear k03 k4 b3 b4
  --BEGIN
  by_cases hX : Ev.right A = true
  · have hX2 : Ev.put A = Ev.bytes A := by rw [Ev.put, if_pos hX]
    have hpz : p.size = (Ev.bytes A).length := by rw [Sp.out, hX2]
    have hpp := Ev.bytes_pos A
    have hp1 : 1 ≤ p.size := by omega
    have hG1 : ∀ j : Int, 0 ≤ j ∧ j < (p.size : Int) → Ev.get (p.extract 0 j.toNat).data.toList 0 = (.zero, 0, 3) := fun j hj => by
      have h3 := Ev.get_cut A j.toNat hX (by omega) (by omega)
      rw [extract_take, Lp.out, hX2]
      have h4 := Ev.get_le ((Ev.bytes A).take j.toNat) 0
      have h5 := h4.2 (by rw [h3]; decide)
      exact Prod.ext h5.1 (Prod.ext h5.2 h3)
    have HG1 := Lib.hid hG1
    clear hG1 hX2 hpz hpp
    by_cases hY : Ev.sorted m = true
    · have hY2 : Ev.mput m = Ev.mbytes m := by rw [Ev.mput, if_pos hY]
      have hqz : q.size = (Ev.mbytes m).length := by rw [Sq.out, hY2]
      have hqq := Ev.mbytes_pos m
      have hq1 : 1 ≤ q.size := by omega
      have hG2 : ∀ j : Int, 0 ≤ j ∧ j < (q.size : Int) → Ev.mcut (q.extract 0 j.toNat).data.toList 0 = ([], 0, 3) := fun j hj => by
        have h3 := Ev.mcut_cut m j.toNat hY (by omega)
        rw [extract_take, Lq.out, hY2]
        have h4 := Ev.mcut_le ((Ev.mbytes m).take j.toNat) 0
        have h5 := h4.2.1 (by rw [h3]; decide)
        exact Prod.ext h5.1 (Prod.ext h5.2 h3)
      have HG2 := Lib.hid hG2
      clear hG2 hY2 hqz hqq
      go_wp2_with fail
      refine (D3.out _).mono ?_
      rintro r w5 ⟨rfl, k5⟩
      rw [hX]
      have k05 := k04.trans k5
      have b5 := B4.out.kept k5
      clear x0 x1 x2 x3 x4 k5
      have q1 : ((p.size : Int) == 0) = false := by simp only [beq_eq_false_iff_ne]; omega
      have m1 : 0 ≤ bits BinOp.and IntKind.i64 k 65535 % (p.size : Int) := Int.emod_nonneg _ (by omega)
      have m2 : bits BinOp.and IntKind.i64 k 65535 % (p.size : Int) < (p.size : Int) := Int.emod_lt_of_pos _ (by omega)
      have m2' : bits BinOp.and IntKind.i64 k 65535 % (p.size : Int) ≤ (p.size : Int) := by omega
      go_wp2_with fail
      refine (evget_any (p.extract 0 (bits BinOp.and IntKind.i64 k 65535 % (p.size : Int)).toNat) 0 _ (by rw [ByteArray.size_extract]; omega) (by omega) (by omega) (HT.out.kept k05)).mono ?_
      rintro r w6 ⟨rfl, k6⟩
      rw [HG1.out (bits BinOp.and IntKind.i64 k 65535 % (p.size : Int)) ⟨m1, m2⟩]
      have k06 := (k05.trans k6).alloc (.cells (evc .zero) 23)
      have b6 := (b5.kept k6).alloc (.cells (evc .zero) 23)
      clear k6 b5 k05
      simp only [tupe, evv, Ev.E.zero]
      go_wp2_with fail
      refine (D4.out _ (HM.out.kept k06)).mono ?_
      rintro r w7 ⟨rfl, k7⟩
      rw [hY]
      have k07 := k06.trans k7
      have b7 := b6.kept k7
      clear k7 b6
      have q2 : ((q.size : Int) == 0) = false := by simp only [beq_eq_false_iff_ne]; omega
      have m3 : 0 ≤ bits BinOp.and IntKind.i64 k 65535 % (q.size : Int) := Int.emod_nonneg _ (by omega)
      have m4 : bits BinOp.and IntKind.i64 k 65535 % (q.size : Int) < (q.size : Int) := Int.emod_lt_of_pos _ (by omega)
      have m4' : bits BinOp.and IntKind.i64 k 65535 % (q.size : Int) ≤ (q.size : Int) := by omega
      go_wp2_with fail
      refine (evcut_any (q.extract 0 (bits BinOp.and IntKind.i64 k 65535 % (q.size : Int)).toNat) 0 _ (by rw [ByteArray.size_extract]; omega) (by omega) (by omega) (HT.out.kept k07)).mono ?_
      rintro r w8 ⟨av8, cap8, rfl, _, k8⟩
      rw [HG2.out (bits BinOp.and IntKind.i64 k 65535 % (q.size : Int)) ⟨m3, m4⟩]
      have k08 := k07.trans k8
      have b8 := b7.kept k8
      clear k8 b7 k07
      simp only [List.length_nil]
      have x0 := b8.cell 0
      have x1 := b8.cell 1
      have x2 := b8.cell 2
      have x3 := b8.cell 3
      have x4 := b8.cell 4
      simp only [evc, List.getElem?_toArray, List.getElem?_cons_zero, List.getElem?_cons_succ] at x0 x1 x2 x3 x4
      have BF := Lib.hid b8
      clear b8
      go_wp2_with fail
      refine (D3.out _).mono ?_
      rintro r w9 ⟨rfl, k9⟩
      rw [hX]
      have k09 := k08.trans k9
      go_wp2_with fail
      refine (D4.out _ (HM.out.kept k09)).mono ?_
      rintro r w10 ⟨rfl, k10⟩
      rw [hY]
      have k10' := k09.trans k10
      go_wp2_with fail
      refine (HF.out _ (HT.out.kept k10') (HP.out.kept k10')).mono ?_
      rintro r w11 ⟨rfl, k11⟩
      go_wp2
      go_ret
      exact ⟨rfl, k10'.trans k11⟩
    · rw [Bool.not_eq_true] at hY
      obtain rfl : q = ⟨#[]⟩ := by
        apply ByteArray.ext
        apply Array.toList_inj.1
        rw [Lq.out, Ev.mput, hY]
        rfl
      go_wp2_with fail
      refine (D3.out _).mono ?_
      rintro r w5 ⟨rfl, k5⟩
      rw [hX]
      have k05 := k04.trans k5
      have b5 := B4.out.kept k5
      clear x0 x1 x2 x3 x4 k5
      have q1 : ((p.size : Int) == 0) = false := by simp only [beq_eq_false_iff_ne]; omega
      have m1 : 0 ≤ bits BinOp.and IntKind.i64 k 65535 % (p.size : Int) := Int.emod_nonneg _ (by omega)
      have m2 : bits BinOp.and IntKind.i64 k 65535 % (p.size : Int) < (p.size : Int) := Int.emod_lt_of_pos _ (by omega)
      have m2' : bits BinOp.and IntKind.i64 k 65535 % (p.size : Int) ≤ (p.size : Int) := by omega
      go_wp2_with fail
      refine (evget_any (p.extract 0 (bits BinOp.and IntKind.i64 k 65535 % (p.size : Int)).toNat) 0 _ (by rw [ByteArray.size_extract]; omega) (by omega) (by omega) (HT.out.kept k05)).mono ?_
      rintro r w6 ⟨rfl, k6⟩
      rw [HG1.out (bits BinOp.and IntKind.i64 k 65535 % (p.size : Int)) ⟨m1, m2⟩]
      have k06 := (k05.trans k6).alloc (.cells (evc .zero) 23)
      have b6 := (b5.kept k6).alloc (.cells (evc .zero) 23)
      clear k6 b5 k05
      simp only [tupe, evv, Ev.E.zero]
      go_wp2_with fail
      refine (D4.out _ (HM.out.kept k06)).mono ?_
      rintro r w7 ⟨rfl, k7⟩
      rw [hY]
      have k07 := k06.trans k7
      have b7 := b6.kept k7
      clear k7 b6
      have x0 := b7.cell 0
      have x1 := b7.cell 1
      have x2 := b7.cell 2
      have x3 := b7.cell 3
      have x4 := b7.cell 4
      simp only [evc, List.getElem?_toArray, List.getElem?_cons_zero, List.getElem?_cons_succ] at x0 x1 x2 x3 x4
      have BF := Lib.hid b7
      clear b7
      go_wp2_with fail
      refine (D3.out _).mono ?_
      rintro r w9 ⟨rfl, k9⟩
      rw [hX]
      have k09 := k07.trans k9
      go_wp2_with fail
      refine (D4.out _ (HM.out.kept k09)).mono ?_
      rintro r w10 ⟨rfl, k10⟩
      rw [hY]
      have k10' := k09.trans k10
      go_wp2_with fail
      refine (HF.out _ (HT.out.kept k10') (HP.out.kept k10')).mono ?_
      rintro r w11 ⟨rfl, k11⟩
      go_wp2
      go_ret
      exact ⟨rfl, k10'.trans k11⟩
  · rw [Bool.not_eq_true] at hX
    obtain rfl : p = ⟨#[]⟩ := by
      apply ByteArray.ext
      apply Array.toList_inj.1
      rw [Lp.out, Ev.put, hX]
      rfl
    by_cases hY : Ev.sorted m = true
    · have hY2 : Ev.mput m = Ev.mbytes m := by rw [Ev.mput, if_pos hY]
      have hqz : q.size = (Ev.mbytes m).length := by rw [Sq.out, hY2]
      have hqq := Ev.mbytes_pos m
      have hq1 : 1 ≤ q.size := by omega
      have hG2 : ∀ j : Int, 0 ≤ j ∧ j < (q.size : Int) → Ev.mcut (q.extract 0 j.toNat).data.toList 0 = ([], 0, 3) := fun j hj => by
        have h3 := Ev.mcut_cut m j.toNat hY (by omega)
        rw [extract_take, Lq.out, hY2]
        have h4 := Ev.mcut_le ((Ev.mbytes m).take j.toNat) 0
        have h5 := h4.2.1 (by rw [h3]; decide)
        exact Prod.ext h5.1 (Prod.ext h5.2 h3)
      have HG2 := Lib.hid hG2
      clear hG2 hY2 hqz hqq
      go_wp2_with fail
      refine (D3.out _).mono ?_
      rintro r w5 ⟨rfl, k5⟩
      rw [hX]
      have k05 := k04.trans k5
      have b5 := B4.out.kept k5
      clear x0 x1 x2 x3 x4 k5
      go_wp2_with fail
      refine (D4.out _ (HM.out.kept k05)).mono ?_
      rintro r w7 ⟨rfl, k7⟩
      rw [hY]
      have k07 := k05.trans k7
      have b7 := b5.kept k7
      clear k7 b5
      have q2 : ((q.size : Int) == 0) = false := by simp only [beq_eq_false_iff_ne]; omega
      have m3 : 0 ≤ bits BinOp.and IntKind.i64 k 65535 % (q.size : Int) := Int.emod_nonneg _ (by omega)
      have m4 : bits BinOp.and IntKind.i64 k 65535 % (q.size : Int) < (q.size : Int) := Int.emod_lt_of_pos _ (by omega)
      have m4' : bits BinOp.and IntKind.i64 k 65535 % (q.size : Int) ≤ (q.size : Int) := by omega
      go_wp2_with fail
      refine (evcut_any (q.extract 0 (bits BinOp.and IntKind.i64 k 65535 % (q.size : Int)).toNat) 0 _ (by rw [ByteArray.size_extract]; omega) (by omega) (by omega) (HT.out.kept k07)).mono ?_
      rintro r w8 ⟨av8, cap8, rfl, _, k8⟩
      rw [HG2.out (bits BinOp.and IntKind.i64 k 65535 % (q.size : Int)) ⟨m3, m4⟩]
      have k08 := k07.trans k8
      have b8 := b7.kept k8
      clear k8 b7 k07
      simp only [List.length_nil]
      have x0 := b8.cell 0
      have x1 := b8.cell 1
      have x2 := b8.cell 2
      have x3 := b8.cell 3
      have x4 := b8.cell 4
      simp only [evc, List.getElem?_toArray, List.getElem?_cons_zero, List.getElem?_cons_succ] at x0 x1 x2 x3 x4
      have BF := Lib.hid b8
      clear b8
      go_wp2_with fail
      refine (D3.out _).mono ?_
      rintro r w9 ⟨rfl, k9⟩
      rw [hX]
      have k09 := k08.trans k9
      go_wp2_with fail
      refine (D4.out _ (HM.out.kept k09)).mono ?_
      rintro r w10 ⟨rfl, k10⟩
      rw [hY]
      have k10' := k09.trans k10
      go_wp2_with fail
      refine (HF.out _ (HT.out.kept k10') (HP.out.kept k10')).mono ?_
      rintro r w11 ⟨rfl, k11⟩
      go_wp2
      go_ret
      exact ⟨rfl, k10'.trans k11⟩
    · rw [Bool.not_eq_true] at hY
      obtain rfl : q = ⟨#[]⟩ := by
        apply ByteArray.ext
        apply Array.toList_inj.1
        rw [Lq.out, Ev.mput, hY]
        rfl
      go_wp2_with fail
      refine (D3.out _).mono ?_
      rintro r w5 ⟨rfl, k5⟩
      rw [hX]
      have k05 := k04.trans k5
      have b5 := B4.out.kept k5
      clear x0 x1 x2 x3 x4 k5
      go_wp2_with fail
      refine (D4.out _ (HM.out.kept k05)).mono ?_
      rintro r w7 ⟨rfl, k7⟩
      rw [hY]
      have k07 := k05.trans k7
      have b7 := b5.kept k7
      clear k7 b5
      have x0 := b7.cell 0
      have x1 := b7.cell 1
      have x2 := b7.cell 2
      have x3 := b7.cell 3
      have x4 := b7.cell 4
      simp only [evc, List.getElem?_toArray, List.getElem?_cons_zero, List.getElem?_cons_succ] at x0 x1 x2 x3 x4
      have BF := Lib.hid b7
      clear b7
      go_wp2_with fail
      refine (D3.out _).mono ?_
      rintro r w9 ⟨rfl, k9⟩
      rw [hX]
      have k09 := k07.trans k9
      go_wp2_with fail
      refine (D4.out _ (HM.out.kept k09)).mono ?_
      rintro r w10 ⟨rfl, k10⟩
      rw [hY]
      have k10' := k09.trans k10
      go_wp2_with fail
      refine (HF.out _ (HT.out.kept k10') (HP.out.kept k10')).mono ?_
      rintro r w11 ⟨rfl, k11⟩
      go_wp2
      go_ret
      exact ⟨rfl, k10'.trans k11⟩
end Go.Proofs.YtbenjenifklejaaDoor
