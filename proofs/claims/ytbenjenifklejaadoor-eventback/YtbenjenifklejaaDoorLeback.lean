/-
  The walk of the law EventBack.
-/
import Derived.Test.YtbenjenifklejaaDoorLecuts
import Derived.Deep.DeepCutAuto
namespace Go.Proofs.YtbenjenifklejaaDoor
open Go.ChangeShapes Go.WideShapes Go.ChangeAt Go.RowKit

theorem three_list (S p : ByteArray) : (S ++ p ++ S).data.toList = S.data.toList ++ (p.data.toList ++ S.data.toList) := by
  rw [ByteArray.data_append, ByteArray.data_append, Array.toList_append, Array.toList_append, List.append_assoc]
theorem extract_of {S : ByteArray} {l : List UInt8} {t : Nat} (h : l = S.data.toList.take t) : str l = .string (S.extract 0 t) := by
  rw [h, ← extract_take, str]
theorem bytes_text (e : Ev.E) : e.t.size ≤ (Ev.bytes e).length := by
  rw [bytes_eq]
  have l1 := size_len e.t
  simp only [List.length_append, l1]
  omega

set_option maxHeartbeats 4000000 in
set_option maxRecDepth 100000 in
theorem eback_walk (a : Ev.E) (av : Option Addr) (cap : Nat) (ms : List Ev.M) (s : ByteArray) (w : World) (ha : Came a) (hms : MkS w av cap ms) (hs : s.size ≤ maxLen) (hT : Tab w) (hP : P10 w) (hF : Fixed) :
    Calls Tryd.prog 6 #[evv a, .slice av ms.length cap, .string s] w fun e w' => e = .returned (.bool true) ∧ Kept w w' := by
  unfold maxLen at hs
  have HA := Lib.hid ha
  have HT := Lib.hid hT
  have HP := Lib.hid hP
  have HF := Lib.hid hF
  obtain ⟨fa, ta, la⟩ := cutE_fit ha
  have ca := cut_ev a
  obtain ⟨A, hAe⟩ : ∃ A, A = cutE a := ⟨_, rfl⟩
  rw [← hAe] at fa ta la ca
  have FA := Lib.hid fa
  have CA := Lib.hid ca
  have hm := hms.take 40
  have hX := take40 ms
  have c1 := hms.cap1
  have c2 := hms.cap2
  obtain ⟨n, hn⟩ : ∃ n, n = ms.length := ⟨_, rfl⟩
  rw [← hn] at hX c1 ⊢
  obtain ⟨m, hmm⟩ : ∃ m, m = ms.take 40 := ⟨_, rfl⟩
  have hml : m.length ≤ 40 := by rw [hmm, List.length_take]; omega
  rw [← hmm] at hm hX
  have HM := Lib.hid hm
  have HX := Lib.hid hX
  clear hAe ca fa ha hT hP hF hn hmm hm hX hms
  unfold evv
  go_enter Tryd.func6, Tryd.ntmps6
  go_wp2_with fail
  have bx := Blk.made w (evc a) 23
  have k0 : Kept w (w.alloc (.cells (evc a) 23)) := (Kept.refl w).alloc _
  refine (CA.out _ HA.out).mono ?_
  rintro r w1 ⟨rfl, k1⟩
  have bx1 := bx.kept k1
  have k01 := k0.trans k1
  have x0 := bx1.cell 0
  have x1 := bx1.cell 1
  have x2 := bx1.cell 2
  have x3 := bx1.cell 3
  have x4 := bx1.cell 4
  have xf0 := bx1.frozen 0
  have xf1 := bx1.frozen 1
  have xf2 := bx1.frozen 2
  have xf3 := bx1.frozen 3
  have xf4 := bx1.frozen 4
  simp only [evc, List.getElem?_toArray, List.getElem?_cons_zero, List.getElem?_cons_succ] at x0 x1 x2 x3 x4
  have BX := Lib.hid bx1
  clear bx bx1 k0 k1
  unfold evv
  go_wp2_with fail
  have b2 := set_ev w.heap.size w1 a A BX.out
  have k2 := set_kept w.heap.size w w1 (.int .i64 A.o) (.int .i64 A.s) (.string A.t) (.string A.l) (.int .i64 A.d) k01 (Nat.le_refl _)
  obtain ⟨w2, hw2⟩ : ∃ w2, w2 = ((((w1.setCell ⟨w.heap.size, 0, none⟩ (.int .i64 A.o)).setCell ⟨w.heap.size, 1, none⟩ (.int .i64 A.s)).setCell ⟨w.heap.size, 2, none⟩ (.string A.t)).setCell ⟨w.heap.size, 3, none⟩ (.string A.l)).setCell ⟨w.heap.size, 4, none⟩ (.int .i64 A.d) := ⟨_, rfl⟩
  rw [← hw2] at b2 k2 ⊢
  clear hw2 BX k01 x0 x1 x2 x3 x4 xf0 xf1 xf2 xf3 xf4
  rw [HX.out]
  have ss := cut_size s 300
  simp only [Int.cast_ofNat_Int] at ss
  generalize s.extract 0 (min (s.size : Int) 300).toNat = S at ss ⊢
  clear hs
  have hSl := size_len S
  have HSl := Lib.hid hSl
  clear hSl
  have v3 := fun W => evright_any A W FA.out
  have v4 := fun W (h : MkS W av cap m) => sorted_any av cap m W h
  unfold evv at v3
  have D3 := Lib.hid v3
  have D4 := Lib.hid v4
  clear v3 v4
  refine (D3.out _).mono ?_
  rintro r w3 ⟨rfl, k3⟩
  have k03 := k2.trans k3
  have b3 := b2.kept k3
  have B3 := Lib.hid b3
  clear k2 k3 b2 b3
  go_upto_if 34 with fail
  go_cut [] (fun wx => Kept w wx ∧ Blk wx w.heap.size (evc A) 23)
  case first =>
    by_cases hX : Ev.right A = true
    · have hX2 : Ev.put A = Ev.bytes A := by rw [Ev.put, if_pos hX]
      obtain ⟨p, hp, sp, lp⟩ := name_row (Ev.bytes A)
      have hpl := bytes_len A
      rw [← sp] at hpl
      have v1 := fun W (h : Tab W) => evput_any A W FA.out (by omega) h
      simp only [hX2, hp] at v1
      unfold evv at v1
      have D1 := Lib.hid v1
      have hg := Ev.get_put A S.data.toList S.data.toList hX (by omega)
      rw [← lp, ← three_list, lp, ← sp, HSl.out] at hg
      have HG := Lib.hid hg
      rw [hX]
      have b3 := B3.out
      have x0 := b3.cell 0
      have x1 := b3.cell 1
      have x2 := b3.cell 2
      have x3 := b3.cell 3
      have x4 := b3.cell 4
      simp only [evc, List.getElem?_toArray, List.getElem?_cons_zero, List.getElem?_cons_succ] at x0 x1 x2 x3 x4
      clear v1 hg hX hX2 hp sp lp b3
      go_wp2_with fail
      refine (D1.out _ (HT.out.kept k03)).mono ?_
      rintro r w4 ⟨rfl, k4⟩
      have k04 := k03.trans k4
      have b4 := B3.out.kept k4
      clear k4 x0 x1 x2 x3 x4
      go_wp2_with fail
      refine (evget_any (S ++ p ++ S) S.size _ (by rw [ByteArray.size_append, ByteArray.size_append]; omega) (by omega) (by omega) (HT.out.kept k04)).mono ?_
      rintro r w5 ⟨rfl, k5⟩
      rw [HG.out]
      have k05 := (k04.trans k5).alloc (.cells (evc A) 23)
      have b5 := b4.kept k5
      have b5a := b5.alloc (.cells (evc A) 23)
      have hlt := b5.lt
      have x0 := b5.cell 0
      have x1 := b5.cell 1
      have x2 := b5.cell 2
      have x3 := b5.cell 3
      have x4 := b5.cell 4
      simp only [evc, List.getElem?_toArray, List.getElem?_cons_zero, List.getElem?_cons_succ] at x0 x1 x2 x3 x4
      have B5 := Lib.hid b5a
      simp only [tupe, evv, Int.natCast_add]
      clear k5 b4 b5 b5a
      go_wp2_with fail
      go_meet
      case rel => exact ⟨k05, B5.out⟩
    · rw [Bool.not_eq_true] at hX
      rw [hX]
      go_wp2_with fail
      go_meet
      case rel => exact ⟨k03, B3.out⟩
  case rest =>
    obtain ⟨k6, b6⟩ := hcut
    have B6 := Lib.hid b6
    clear k03 B3 b6
    go_wp2_with fail
    refine (D4.out _ (HM.out.kept k6)).mono ?_
    rintro r w7 ⟨rfl, k7⟩
    have k07 := k6.trans k7
    clear k6 k7 B6
    go_upto_if 66 with fail
    go_cut [] (fun wx => Kept w wx)
    case first =>
      by_cases hY : Ev.sorted m = true
      · have hY2 : Ev.mput m = Ev.mbytes m := by rw [Ev.mput, if_pos hY]
        obtain ⟨q, hq, sq, lq⟩ := name_row (Ev.mbytes m)
        have hql := mbytes_len m
        rw [← sq] at hql
        have v2 := fun W (h : MkS W av cap m) (h' : Tab W) => marks_any av cap m W h h'
        simp only [hY2, hq] at v2
        have D2 := Lib.hid v2
        have hg := Ev.mcut_put m S.data.toList S.data.toList hY
        rw [← lq, ← three_list, lq, ← sq, HSl.out] at hg
        have HG := Lib.hid hg
        rw [hY]
        clear v2 hg hY hY2 hq sq lq
        go_wp2_with fail
        refine (D2.out _ (HM.out.kept k07) (HT.out.kept k07)).mono ?_
        rintro r w8 ⟨rfl, k8⟩
        have k08 := k07.trans k8
        clear k8
        go_wp2_with fail
        refine (evcut_any (S ++ q ++ S) S.size _ (by rw [ByteArray.size_append, ByteArray.size_append]; omega) (by omega) (by omega) (HT.out.kept k08)).mono ?_
        rintro r w9 ⟨av9, cap9, rfl, m9, k9⟩
        rw [HG.out] at m9 ⊢
        have k09 := k08.trans k9
        have ce := equal_any av av9 cap cap9 m w9 (HM.out.kept k09) m9
        have CE := Lib.hid ce
        simp only [Int.natCast_add]
        clear k9 ce m9
        go_wp2_with fail
        refine CE.out.mono ?_
        rintro r w10 ⟨rfl, k10⟩
        have k010 := k09.trans k10
        go_wp2_with fail
        go_meet
        case rel => exact k010
      · rw [Bool.not_eq_true] at hY
        rw [hY]
        go_wp2_with fail
        go_meet
        case rel => exact k07
    case rest =>
      have k6 := hcut
      clear k07 hcut
      go_wp2_with fail
      refine (evget_any S 0 _ (by omega) (by omega) (by omega) (HT.out.kept k6)).mono ?_
      rintro r w11 ⟨rfl, k11⟩
      obtain ⟨⟨E, p1, e1⟩, hg⟩ : ∃ x, x = Ev.get S.data.toList 0 := ⟨_, rfl⟩
      have hle := (Ev.get_le S.data.toList 0).1
      rw [← hg] at hle ⊢
      have Hg := Lib.hid hg
      simp only at hle
      have k12 := (k6.trans k11).alloc (.cells (evc E) 23)
      have bE := Blk.made w11 (evc E) 23
      simp only [tupe, evv]
      clear hg k11 k6
      go_wp2_with fail
      refine (evcut_any S 0 _ (by omega) (by omega) (by omega) (HT.out.kept k12)).mono ?_
      rintro r w13 ⟨av3, cap3, rfl, m13, k13⟩
      have k013 := k12.trans k13
      have b13 := bE.kept k13
      obtain ⟨⟨M, p2, e2⟩, hc⟩ : ∃ x, x = Ev.mcut S.data.toList 0 := ⟨_, rfl⟩
      have hle2 := (Ev.mcut_le S.data.toList 0).1
      rw [← hc] at m13 hle2 ⊢
      simp only at m13 hle2 ⊢
      have Hc := Lib.hid hc
      have M13 := Lib.hid m13
      have K13 := Lib.hid k013
      have HT13 := Lib.hid (HT.out.kept k013)
      obtain ⟨N, hN⟩ : ∃ N, N = M.length := ⟨_, rfl⟩
      rw [← hN]
      have HN := Lib.hid hN
      have x0 := b13.cell 0
      have x1 := b13.cell 1
      have x2 := b13.cell 2
      have x3 := b13.cell 3
      have x4 := b13.cell 4
      simp only [evc, List.getElem?_toArray, List.getElem?_cons_zero, List.getElem?_cons_succ] at x0 x1 x2 x3 x4
      have t0 := KW.cell x0
      have t1 := KW.cell x1
      have t2 := KW.cell x2
      have t3 := KW.cell x3
      have t4 := KW.cell x4
      clear hc m13 hN k12 k13 k013 bE b13 x0 x1 x2 x3 x4
      go_wp2_with fail
      by_cases h1 : e1 = 0
      · subst h1
        obtain ⟨g1, g2, g3⟩ := Ev.get_got S.data.toList E p1 (by rw [← Hg.out])
        rw [HSl.out] at g2
        have hEt : E.t.size ≤ 300 := by
          have h1 := bytes_text E
          have h2 : (Ev.bytes E).length ≤ 300 := by rw [g3, List.length_take, HSl.out]; omega
          omega
        have hr := (Ev.right_iff E).1 g1
        have fE : Fit E := ⟨by omega, by omega, by omega, by omega, by omega, by omega, by omega, by omega⟩
        have hpE : str (Ev.put E) = .string (S.extract 0 p1) := by rw [Ev.put, if_pos g1]; exact extract_of g3
        have vp := fun p : KW w13 => evput_any E p.v fE (by omega) (HT13.out.kept p.h)
        simp only [hpE] at vp
        unfold evv at vp
        have DP := Lib.hid vp
        have j1 : decide ((S.size : Int) < (p1 : Int)) = false := by simp; omega
        have j2 : decide ((p1 : Int) < 0) = false := by simp
        have j3 : (p1 : Int) ≤ (S.size : Int) := by omega
        have j4 : decide (S.size < p1) = false := by simp; omega
        clear g1 g3 hr hpE vp hEt fE
        by_cases h2 : e2 = 0
        · subst h2
          obtain ⟨r1, r2, r3⟩ := Ev.mcut_got S.data.toList M p2 (by rw [← Hc.out])
          rw [HSl.out] at r2
          have hpM : str (Ev.mput M) = .string (S.extract 0 p2) := by rw [Ev.mput, if_pos r1]; exact extract_of r3
          have vm := fun p : KW w13 => marks_any av3 cap3 M p.v (M13.out.kept p.h) (HT13.out.kept p.h)
          simp only [hpM, ← HN.out] at vm
          have DM := Lib.hid vm
          have l1 : decide ((S.size : Int) < (p2 : Int)) = false := by simp; omega
          have l2 : decide ((p2 : Int) < 0) = false := by simp
          have l3 : (p2 : Int) ≤ (S.size : Int) := by omega
          have l4 : decide (S.size < p2) = false := by simp; omega
          clear r1 r3 hpM vm
          have nn : Nonempty (KW w13) := ⟨⟨w13, Kept.refl w13⟩⟩
          refine wp_region_kept (by kernel_rfl) (by kernel_rfl) ?_
          repeat (go_big_quiet_step ((first | (go_at_call 13; with_reducible exact KW.calls _ (DP.out _)) | (go_at_call 29; with_reducible exact KW.calls _ (DM.out _)))))
          refine wpQuiet_nil ?_
          intro w14 hw14
          have k14 : Kept w13 w14 := by
            obtain ⟨p, rfl⟩ := hw14
            exact p.h
          have k014 := K13.out.trans k14
          clear hw14 nn
          go_wp2_with fail
          refine (HF.out _ (HT.out.kept k014) (HP.out.kept k014)).mono ?_
          rintro r w15 ⟨rfl, k15⟩
          go_wp2
          go_ret
          exact ⟨rfl, k014.trans k15⟩
        · skip
          have l1 : ((e2 : Int) == 0) = false := by simp only [beq_eq_false_iff_ne]; omega
          clear h2
          have nn : Nonempty (KW w13) := ⟨⟨w13, Kept.refl w13⟩⟩
          refine wp_region_kept (by kernel_rfl) (by kernel_rfl) ?_
          repeat (go_big_quiet_step ((first | (go_at_call 13; with_reducible exact KW.calls _ (DP.out _)))))
          refine wpQuiet_nil ?_
          intro w14 hw14
          have k14 : Kept w13 w14 := by
            obtain ⟨p, rfl⟩ := hw14
            exact p.h
          have k014 := K13.out.trans k14
          clear hw14 nn
          go_wp2_with fail
          refine (HF.out _ (HT.out.kept k014) (HP.out.kept k014)).mono ?_
          rintro r w15 ⟨rfl, k15⟩
          go_wp2
          go_ret
          exact ⟨rfl, k014.trans k15⟩
      · skip
        have j1 : ((e1 : Int) == 0) = false := by simp only [beq_eq_false_iff_ne]; omega
        clear h1
        by_cases h2 : e2 = 0
        · subst h2
          obtain ⟨r1, r2, r3⟩ := Ev.mcut_got S.data.toList M p2 (by rw [← Hc.out])
          rw [HSl.out] at r2
          have hpM : str (Ev.mput M) = .string (S.extract 0 p2) := by rw [Ev.mput, if_pos r1]; exact extract_of r3
          have vm := fun p : KW w13 => marks_any av3 cap3 M p.v (M13.out.kept p.h) (HT13.out.kept p.h)
          simp only [hpM, ← HN.out] at vm
          have DM := Lib.hid vm
          have l1 : decide ((S.size : Int) < (p2 : Int)) = false := by simp; omega
          have l2 : decide ((p2 : Int) < 0) = false := by simp
          have l3 : (p2 : Int) ≤ (S.size : Int) := by omega
          have l4 : decide (S.size < p2) = false := by simp; omega
          clear r1 r3 hpM vm
          have nn : Nonempty (KW w13) := ⟨⟨w13, Kept.refl w13⟩⟩
          refine wp_region_kept (by kernel_rfl) (by kernel_rfl) ?_
          repeat (go_big_quiet_step ((first | (go_at_call 29; with_reducible exact KW.calls _ (DM.out _)))))
          refine wpQuiet_nil ?_
          intro w14 hw14
          have k14 : Kept w13 w14 := by
            obtain ⟨p, rfl⟩ := hw14
            exact p.h
          have k014 := K13.out.trans k14
          clear hw14 nn
          go_wp2_with fail
          refine (HF.out _ (HT.out.kept k014) (HP.out.kept k014)).mono ?_
          rintro r w15 ⟨rfl, k15⟩
          go_wp2
          go_ret
          exact ⟨rfl, k014.trans k15⟩
        · skip
          have l1 : ((e2 : Int) == 0) = false := by simp only [beq_eq_false_iff_ne]; omega
          clear h2
          have nn : Nonempty (KW w13) := ⟨⟨w13, Kept.refl w13⟩⟩
          refine wp_region_kept (by kernel_rfl) (by kernel_rfl) ?_
          repeat (go_big_quiet_step (fail))
          refine wpQuiet_nil ?_
          intro w14 hw14
          have k14 : Kept w13 w14 := by
            obtain ⟨p, rfl⟩ := hw14
            exact p.h
          have k014 := K13.out.trans k14
          clear hw14 nn
          go_wp2_with fail
          refine (HF.out _ (HT.out.kept k014) (HP.out.kept k014)).mono ?_
          rintro r w15 ⟨rfl, k15⟩
          go_wp2
          go_ret
          exact ⟨rfl, k014.trans k15⟩
end Go.Proofs.YtbenjenifklejaaDoor
