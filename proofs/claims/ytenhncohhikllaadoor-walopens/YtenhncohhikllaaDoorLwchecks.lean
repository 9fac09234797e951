/-
  The walk of the law WalChecks.
-/
import Derived.Test.YtenhncohhikllaaDoorWfix
import Derived.Deep.DeepCutAuto
namespace Go.Proofs.YtenhncohhikllaaDoor
open Go.ChangeShapes Go.WideShapes Go.ChangeAt Go.RowKit

theorem str_eq_self (s : ByteArray) : (s.toList == s.toList) = true := by simp
theorem str_ne_self (s : ByteArray) : (s.toList != s.toList) = false := by simp
theorem cut60 (s : ByteArray) : (s.extract 0 (min (s.size : Int) 60).toNat).size ≤ 60 := by
  rw [ByteArray.size_extract]; omega

set_option maxHeartbeats 4000000 in
set_option maxRecDepth 100000 in
theorem wchecks_walk (av : Option Addr) (len cap : Nat) (z : Nat → OpV) (st : ByteArray) (w : World) (hz : OpArg w av len cap z) (hst : st.size ≤ maxLen) (hT : Tab w) :
    Calls Tryd.prog 8 #[.slice av len cap, .string st] w fun e w' => e = .returned (.bool true) ∧ Kept w w' := by
  unfold maxLen at hst
  have mb1 : 0 ≤ min (st.size : Int) 60 := by omega
  have mb2 : min (st.size : Int) 60 ≤ (st.size : Int) := by omega
  go_enter Tryd.func8, Tryd.ntmps8
  go_wp2_with fail
  refine (law_cut av len cap z w hz).mono ?_
  rintro e w1 ⟨a, c, os, rfl, ho, hn, hos, k1⟩
  have HO := Lib.hid ho
  have KW := Lib.hid k1
  have HT := Lib.hid (hT.kept k1)
  have HOS := Lib.hid hos
  clear ho k1 hT hos hz
  go_wp2_with fail
  refine (new_disk _).mono ?_
  rintro e w2 ⟨rfl, x2, k2⟩
  obtain ⟨base, hbase⟩ : ∃ base, base = w1.heap.size := ⟨_, rfl⟩
  rw [← hbase] at x2 ⊢
  obtain ⟨d, hd⟩ : ∃ d, d = base := ⟨_, rfl⟩
  have x2 : Dsk w2 base d (fun _ => ⟨#[]⟩) (.slice none 0 0) [] := by rw [hd]; exact x2
  rw [show (Value.pointer (some ⟨base, 0, none⟩)) = .pointer (some ⟨d, 0, none⟩) by rw [hd]]
  have HB : Hid (w1.heap.size ≤ base) := by show _ ≤ _; omega
  have X2 := Lib.hid x2
  have K2 := Lib.hid k2
  clear x2 k2 hd hbase
  have hc := cut60 st
  go_wp2_with fail
  generalize st.extract 0 (min (st.size : Int) 60).toNat = T at hc ⊢
  refine (run_open (k := 0) w2 X2.out (by decide) HT.out HB.out K2.out stands_new (Nat.le_refl _) (by decide) (Nat.le_refl _) (Nat.zero_le _) (by simp)).mono ?_
  rintro e w3 ⟨b, lv, rfl, x3, _, _, f⟩
  have X3 := Lib.hid x3
  have K3 := Lib.hid (X2.out.still HB.out K2.out f)
  generalize Wg.opened (nowF (fun _ => ⟨#[]⟩) []) = K at X3
  clear x3 f X2 K2 hst mb1 mb2
  obtain ⟨n, hnn⟩ : ∃ n, n = os.length := ⟨_, rfl⟩
  rw [← hnn] at hn HO ⊢
  have HN := Lib.hid hnn
  clear hnn
  go_wp2
  go_loopw [9] (fun i wr => ∃ k : Nat, k ≤ n ∧ i = .int .i64 k ∧ Hid (∃ v ws x lv sure, Run wr base b d K v ws x lv sure k) ∧ Hid (Kept w1 wr)) (fun i _ => n - (intOf i).toNat)
  case atStart => exact ⟨0, Nat.zero_le _, rfl, Lib.hid ⟨_, _, _, _, _, X3.out⟩, K3⟩
  case round =>
    obtain ⟨k, hk, rfl, hx, kr⟩ := hrel
    rename_i wr
    obtain ⟨v, ws, x, lv', sure, hx⟩ := hx.out
    have X := Lib.hid hx
    clear hx
    by_cases hlt : k < n
    · have hkl : k < os.length := by rw [← HN.out]; exact hlt
      obtain ⟨q1, q2, g, rfl, c0, c1, _⟩ := HO.out.at kr.out hkl
      have hsz := (HOS.out _ (List.getElem_mem hkl)).1
      unfold maxLen at q2
      generalize os[k] = o at c0 c1 hsz
      obtain ⟨kd, s, m⟩ := o
      simp only at c0 c1 hsz
      by_cases hkd : kd = 1
      · subst hkd
        go_wp2_with fail
        refine (run_chk s wr X.out hsz (by omega) HT.out HB.out kr.out).mono ?_
        rintro e w5 ⟨rfl, v5, lv5, x5, _, _, f⟩
        have K5 := Lib.hid (X.out.ld.still HB.out kr.out f)
        have X5 := Lib.hid x5
        clear x5 f X
        go_wp2
        go_roundw
        case rel => exact ⟨k + 1, by omega, by go_num, Lib.hid ⟨_, _, _, _, _, X5.out⟩, K5⟩
        case measure => simp [intOf]; omega
      · have hkb : (kd == 1) = false := by rw [beq_eq_false_iff_ne]; exact hkd
        go_wp2_with fail
        refine (run_app s wr X.out hsz (by omega) (HT.out.kept kr.out)).mono ?_
        rintro e w5 ⟨rfl, v5, lv5, x5, _, _, f⟩
        have K5 := Lib.hid (X.out.ld.still HB.out kr.out f)
        have X5 := Lib.hid x5
        clear x5 f X
        go_wp2
        go_roundw
        case rel => exact ⟨k + 1, by omega, by go_num, Lib.hid ⟨_, _, _, _, _, X5.out⟩, K5⟩
        case measure => simp [intOf]; omega
    · have hkk : k = n := by omega
      subst hkk
      have hr : x.r ≤ 40 := Nat.le_trans X.out.nr hn
      go_wp2_with fail
      refine (round_any wr X.out.ld.log).mono ?_
      rintro e w5 ⟨rfl, k5⟩
      have X5 := Lib.hid (X.out.kept k5)
      have K5 := Lib.hid (kr.out.trans k5)
      clear k5 X kr
      go_wp2_with fail
      refine (run_chk T w5 X5.out hc (by omega) HT.out HB.out K5.out).mono ?_
      rintro e w6 ⟨rfl, v6, lv6, x6, _, _, f⟩
      have K6 := Lib.hid (X5.out.ld.still HB.out K5.out f)
      have hx6 : Wg.St.act x (.chk T.data.toList) = ⟨x.r + 1, T.data.toList, []⟩ := rfl
      rw [hx6] at x6
      have X6 := Lib.hid x6
      generalize ws ++ Wg.writes x (.chk T.data.toList) = ws6 at X6
      generalize x.r = R at hr X6 ⊢
      have r1 : IntKind.i64.wrap ((R : Int) + 1) = (R : Int) + 1 := by rw [IntKind.wrap_i64]; omega
      have r2 : (((R + 1 : Nat) : Int) != (R : Int) + 1) = false := by simp
      have r3 : (((R + 1 : Nat) : Int) == (R : Int) + 1) = true := by simp
      have r4 : ((R + 1 : Nat) : Int) = (R : Int) + 1 := by omega
      clear x6 f X5 K5 hx6
      go_wp2_with fail
      refine (round_any w6 X6.out.ld.log).mono ?_
      rintro e w7 ⟨rfl, k7⟩
      simp only [r4]
      have X7 := Lib.hid (X6.out.kept k7)
      have K7 := Lib.hid (K6.out.trans k7)
      clear k7 X6 K6
      go_wp2_with fail
      refine (records_any w7 X7.out.ld.log).mono ?_
      rintro e w8 ⟨rv, rfl, r8, k8⟩
      obtain ⟨ar, cr, rfl⟩ := r8.form
      have X8 := Lib.hid (X7.out.kept k8)
      have K8 := Lib.hid (K7.out.trans k8)
      clear k8 X7 K7 r8
      go_wp2_with fail
      refine (sure_any w8 X8.out.ld.log).mono ?_
      rintro e w9 ⟨rfl, k9⟩
      have X9 := Lib.hid (X8.out.kept k9)
      have K9 := Lib.hid (K8.out.trans k9)
      clear k9 X8 K8
      go_wp2_with fail
      refine (state_any w9 X9.out.ld.log).mono ?_
      rintro e w10 ⟨rfl, k10⟩
      have hT1 : str T.data.toList = .string T := rfl
      simp only [hT1]
      have t1 := str_ne_self T
      have t2 := str_eq_self T
      have X10 := Lib.hid (X9.out.kept k10)
      have K10 := Lib.hid (K9.out.trans k10)
      clear k10 X9 K9
      go_wp2_with fail
      refine (run_sync w10 X10.out).mono ?_
      rintro e w11 ⟨rfl, v11, lv11, x11, _, _, f⟩
      have X11 := Lib.hid x11
      have K11 := Lib.hid (X10.out.ld.still HB.out K10.out f)
      generalize nowF K ws6 = KS at X11
      have EX := Lib.hid X11.out.ex
      clear x11 f X10 K10
      go_wp2_with fail
      refine (run_app ⟨#[108, 111, 115, 116]⟩ w11 X11.out (by decide) (by omega) (HT.out.kept K11.out)).mono ?_
      rintro e w12 ⟨rfl, v12, lv12, x12, _, _, f⟩
      have X12 := Lib.hid x12
      have K12 := Lib.hid (X11.out.ld.still HB.out K11.out f)
      clear x12 f X11 K11
      go_wp2_with fail
      generalize [] ++ Wg.writes ⟨R + 1, T.data.toList, []⟩ (.app (⟨#[108, 111, 115, 116]⟩ : ByteArray).data.toList) = us at X12
      refine (crash_is (K' := KS) 0 ((min (0 : Int).toNat (Dk.total us) : Nat) : Int) w12 X12.out.ld.dsk (by decide) (by decide) rfl (Dk.after_zero _ _)).mono ?_
      rintro e w13 ⟨rfl, d13, f⟩
      have D13 := Lib.hid d13
      have K13 := Lib.hid (X12.out.ld.dsk.still HB.out K12.out f)
      clear d13 f X12 K12
      go_wp2_with fail
      refine (run_open (k := 100) w13 D13.out (by decide) HT.out HB.out K13.out EX.out.stands (by show R + 1 ≤ 100; omega) (by decide) (by simp) (by show T.data.toList.length ≤ 60; rw [size_len]; exact hc) (by simp)).mono ?_
      rintro e w14 ⟨b2, lv2, rfl, x14, _, _, f⟩
      have X14 := Lib.hid x14
      have K14 := Lib.hid (D13.out.still HB.out K13.out f)
      clear x14 f D13 K13
      go_wp2_with fail
      refine (state_any w14 X14.out.ld.log).mono ?_
      rintro e w15 ⟨rfl, k15⟩
      simp only [hT1]
      have X15 := Lib.hid (X14.out.kept k15)
      have K15 := Lib.hid (K14.out.trans k15)
      clear k15 X14 K14
      go_wp2_with fail
      refine (records_any w15 X15.out.ld.log).mono ?_
      rintro e w16 ⟨rv, rfl, r16, k16⟩
      obtain ⟨ar2, cr2, rfl⟩ := r16.form
      have X16 := Lib.hid (X15.out.kept k16)
      have K16 := Lib.hid (K15.out.trans k16)
      clear k16 X15 K15 r16
      go_wp2_with fail
      refine (round_any w16 X16.out.ld.log).mono ?_
      rintro e w17 ⟨rfl, k17⟩
      simp only [r4]
      have K17 := Lib.hid (K16.out.trans k17)
      clear k17 X16 K16
      go_wp2_with fail
      refine (fix_any w17 (HT.out.kept K17.out)).mono ?_
      rintro e w18 ⟨rfl, k18⟩
      go_wp2
      go_ret
      exact ⟨rfl, (KW.out.trans K17.out).trans k18⟩
end Go.Proofs.YtenhncohhikllaaDoor
