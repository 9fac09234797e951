/-
  The walk of the law WalAgain.
-/
import Derived.Test.YtenhncohhikllaaDoorLwchecks
import Derived.Deep.DeepCutAuto
namespace Go.Proofs.YtenhncohhikllaaDoor
open Go.ChangeShapes Go.WideShapes Go.ChangeAt Go.RowKit

/-- rows of writes and rows of texts are never the same block -/
theorem Dsk.apart {w : World} {base d : Nat} {K : Dk.Fl} {v : Value} {ws : List Dk.W} (o : Dsk w base d K v ws) {base' : Nat} {r : Value} {l : List (List UInt8)} (h : Tx w base' r l) : RApart v r := fun i e1 e2 => by
  obtain ⟨_, cur, hg⟩ := o.row.blk e1
  obtain ⟨_, cur2, hg2⟩ := h.blk e2
  exact type_ne hg hg2 (by decide)
theorem dec_ne (n : Nat) : (((n : Nat) : Int) != n) = false := by simp
set_option maxHeartbeats 4000000 in
set_option maxRecDepth 100000 in
theorem wagain_walk (av : Option Addr) (len cap : Nat) (z : Nat → OpV) (st : ByteArray) (w : World) (hz : OpArg w av len cap z) (hst : st.size ≤ maxLen) (hT : Tab w) :
    Calls Tryd.prog 6 #[.slice av len cap, .string st] w fun e w' => e = .returned (.bool true) ∧ Kept w w' := by
  unfold maxLen at hst
  have mb1 : 0 ≤ min (st.size : Int) 60 := by omega
  have mb2 : min (st.size : Int) 60 ≤ (st.size : Int) := by omega
  go_enter Tryd.func6, Tryd.ntmps6
  go_wp2_with fail
  refine (law_cut av len cap z w hz).mono ?_
  rintro e w1 ⟨a, c, os, rfl, ho, hn, hos, k1⟩
  have HO := Lib.hid ho
  have KW := Lib.hid k1
  have HT := Lib.hid (hT.kept k1)
  have HOS := Lib.hid hos
  clear ho k1 hT hos hz
  go_wp2_with fail
  refine (new_disk _).mono ?_
  rintro e w2 ⟨rfl, x2, k2⟩
  obtain ⟨base, hbase⟩ : ∃ base, base = w1.heap.size := ⟨_, rfl⟩
  rw [← hbase] at x2 ⊢
  obtain ⟨d, hd⟩ : ∃ d, d = base := ⟨_, rfl⟩
  have x2 : Dsk w2 base d (fun _ => ⟨#[]⟩) (.slice none 0 0) [] := by rw [hd]; exact x2
  rw [show (Value.pointer (some ⟨base, 0, none⟩)) = .pointer (some ⟨d, 0, none⟩) by rw [hd]]
  have HB : Hid (w1.heap.size ≤ base) := by show _ ≤ _; omega
  have X2 := Lib.hid x2
  have K2 := Lib.hid k2
  clear x2 k2 hd hbase
  have hc := cut60 st
  go_wp2_with fail
  generalize st.extract 0 (min (st.size : Int) 60).toNat = T at hc ⊢
  refine (run_open (k := 0) w2 X2.out (by decide) HT.out HB.out K2.out stands_new (Nat.le_refl _) (by decide) (Nat.le_refl _) (Nat.zero_le _) (by simp)).mono ?_
  rintro e w3 ⟨b, lv, rfl, x3, _, _, f⟩
  have X3 := Lib.hid x3
  have K3 := Lib.hid (X2.out.still HB.out K2.out f)
  generalize Wg.opened (nowF (fun _ => ⟨#[]⟩) []) = K at X3
  clear x3 f X2 K2 hst mb1 mb2
  obtain ⟨n, hnn⟩ : ∃ n, n = os.length := ⟨_, rfl⟩
  rw [← hnn] at hn HO ⊢
  have HN := Lib.hid hnn
  clear hnn
  go_wp2
  go_loopw [9] (fun i wr => ∃ k : Nat, k ≤ n ∧ i = .int .i64 k ∧ Hid (∃ v ws x lv sure, Run wr base b d K v ws x lv sure k) ∧ Hid (Kept w1 wr)) (fun i _ => n - (intOf i).toNat)
  case atStart => exact ⟨0, Nat.zero_le _, rfl, Lib.hid ⟨_, _, _, _, _, X3.out⟩, K3⟩
  case round =>
    obtain ⟨k, hk, rfl, hx, kr⟩ := hrel
    rename_i wr
    obtain ⟨v, ws, x, lv', sure, hx⟩ := hx.out
    have X := Lib.hid hx
    clear hx
    by_cases hlt : k < n
    · have hkl : k < os.length := by rw [← HN.out]; exact hlt
      obtain ⟨q1, q2, g, rfl, c0, c1, _⟩ := HO.out.at kr.out hkl
      have hsz := (HOS.out _ (List.getElem_mem hkl)).1
      unfold maxLen at q2
      generalize os[k] = o at c0 c1 hsz
      obtain ⟨kd, s, m⟩ := o
      simp only at c0 c1 hsz
      by_cases hkd : kd = 1
      · subst hkd
        go_wp2_with fail
        refine (run_chk s wr X.out hsz (by omega) HT.out HB.out kr.out).mono ?_
        rintro e w5 ⟨rfl, v5, lv5, x5, _, _, f⟩
        have K5 := Lib.hid (X.out.ld.still HB.out kr.out f)
        have X5 := Lib.hid x5
        clear x5 f X
        go_wp2
        go_roundw
        case rel => exact ⟨k + 1, by omega, by go_num, Lib.hid ⟨_, _, _, _, _, X5.out⟩, K5⟩
        case measure => simp [intOf]; omega
      · have hkb : (kd == 1) = false := by rw [beq_eq_false_iff_ne]; exact hkd
        go_wp2_with fail
        refine (run_app s wr X.out hsz (by omega) (HT.out.kept kr.out)).mono ?_
        rintro e w5 ⟨rfl, v5, lv5, x5, _, _, f⟩
        have K5 := Lib.hid (X.out.ld.still HB.out kr.out f)
        have X5 := Lib.hid x5
        clear x5 f X
        go_wp2
        go_roundw
        case rel => exact ⟨k + 1, by omega, by go_num, Lib.hid ⟨_, _, _, _, _, X5.out⟩, K5⟩
        case measure => simp [intOf]; omega
    · have hkk : k = n := by omega
      subst hkk
      have hr : x.r ≤ 40 := Nat.le_trans X.out.nr hn
      have hl : x.l.length ≤ 40 := Nat.le_trans X.out.nl hn
      have hw : ws.length ≤ 80 := by have := X.out.nw; omega
      have EX := Lib.hid X.out.ex
      have HS := Lib.hid X.out.st
      have HM := Lib.hid X.out.sm
      go_wp2_with fail
      refine (run_open (k := 40) wr X.out.ld.dsk (by omega) HT.out HB.out kr.out EX.out.stands hr (by decide) hl HS.out HM.out).mono ?_
      rintro e w5 ⟨bm, lvm, rfl, m5, hbm, hlm, f⟩
      have NB : Hid (b ≠ bm) := Lib.hid (by have := heap_lt X.out.ld.log.blk; omega)
      have AM : Hid (RApart lvm lv') := Lib.hid fun i e1 e2 => by
        obtain ⟨_, cur, hg⟩ := X.out.ld.log.row.blk e2
        have := heap_lt hg
        have := hlm i e1
        omega
      have L5 := Lib.hid (X.out.ld.log.past X.out.ld.dsk X.out.ld.ap f)
      have K5 := Lib.hid (X.out.ld.dsk.still HB.out kr.out f)
      have M5 := Lib.hid m5
      clear m5 hbm hlm f X kr
      obtain ⟨P, hP, _, _⟩ := name_str x.st
      have HP := Lib.hid hP
      have t1 := str_ne_self P
      clear hP
      go_wp2_with fail
      refine (state_any w5 M5.out.ld.log).mono ?_
      rintro e w6 ⟨rfl, k6⟩
      rw [HP.out]
      have L6 := Lib.hid (L5.out.kept k6)
      have M6 := Lib.hid (M5.out.kept k6)
      have K6 := Lib.hid (K5.out.trans k6)
      clear k6 L5 M5 K5
      go_wp2_with fail
      refine (state_any w6 L6.out).mono ?_
      rintro e w7 ⟨rfl, k7⟩
      rw [HP.out]
      have L7 := Lib.hid (L6.out.kept k7)
      have M7 := Lib.hid (M6.out.kept k7)
      have K7 := Lib.hid (K6.out.trans k7)
      clear k7 L6 M6 K6
      go_wp2_with fail
      refine (records_any w7 M7.out.ld.log).mono ?_
      rintro e w8 ⟨rv, rfl, r8, k8⟩
      have R8 := Lib.hid r8
      have L8 := Lib.hid (L7.out.kept k8)
      have M8 := Lib.hid (M7.out.kept k8)
      have K8 := Lib.hid (K7.out.trans k8)
      clear r8 k8 L7 M7 K7
      go_wp2_with fail
      refine (records_any w8 L8.out).mono ?_
      rintro e w9 ⟨rv2, rfl, r9, k9⟩
      have R9 := Lib.hid r9
      have Q9 := Lib.hid (R8.out.kept k9)
      have L9 := Lib.hid (L8.out.kept k9)
      have M9 := Lib.hid (M8.out.kept k9)
      have K9 := Lib.hid (K8.out.trans k9)
      clear r9 k9 L8 M8 K8 R8
      go_wp2_with fail
      refine (same_any _ _ x.l x.l _ Q9.out.strs R9.out.strs).mono ?_
      rintro e w10 ⟨rfl, k10⟩
      rw [show (x.l == x.l) = true by simp]
      have L10 := Lib.hid (L9.out.kept k10)
      have M10 := Lib.hid (M9.out.kept k10)
      have K10 := Lib.hid (K9.out.trans k10)
      clear k10 L9 M9 K9 Q9 R9
      go_wp2_with fail
      refine (round_any w10 M10.out.ld.log).mono ?_
      rintro e w11 ⟨rfl, k11⟩
      have L11 := Lib.hid (L10.out.kept k11)
      have M11 := Lib.hid (M10.out.kept k11)
      have K11 := Lib.hid (K10.out.trans k11)
      clear k11 L10 M10 K10
      go_wp2_with fail
      refine (round_any w11 L11.out).mono ?_
      rintro e w12 ⟨rfl, k12⟩
      have L12 := Lib.hid (L11.out.kept k12)
      have M12 := Lib.hid (M11.out.kept k12)
      have K12 := Lib.hid (K11.out.trans k12)
      have d1 := dec_ne x.r
      have d2 := dec_ne x.l.length
      clear k12 L11 M11 K11
      go_wp2_with fail
      refine (sure_any w12 M12.out.ld.log).mono ?_
      rintro e w13 ⟨rfl, k13⟩
      have L13 := Lib.hid (L12.out.kept k13)
      have M13 := Lib.hid (M12.out.kept k13)
      have K13 := Lib.hid (K12.out.trans k13)
      clear k13 L12 M12 K12
      go_wp2_with fail
      refine (records_any w13 L13.out).mono ?_
      rintro e w14 ⟨rv3, rfl, r14, k14⟩
      obtain ⟨a14, c14, rfl⟩ := r14.form
      have L14 := Lib.hid (L13.out.kept k14)
      have M14 := Lib.hid (M13.out.kept k14)
      have K14 := Lib.hid (K13.out.trans k14)
      clear r14 k14 L13 M13 K13
      go_wp2_with fail
      refine (run_app T w14 M14.out hc (by decide) (HT.out.kept K14.out)).mono ?_
      rintro e w15 ⟨rfl, v15, lv15, m15, _, _, f⟩
      have L15 := Lib.hid (M14.out.ld.lg f L14.out NB.out AM.out)
      have M15 := Lib.hid m15
      have K15 := Lib.hid (M14.out.ld.still HB.out K14.out f)
      generalize [] ++ Wg.writes x (.app T.data.toList) = us at M15
      have EX2 := Lib.hid M15.out.ex
      have hw2 := M15.out.nw
      have HS2 := Lib.hid M15.out.st
      have HM2 := Lib.hid M15.out.sm
      have hr2 : (x.act (.app T.data.toList)).r ≤ 41 := M15.out.nr
      have hl2 : (x.act (.app T.data.toList)).l.length ≤ 41 := M15.out.nl
      clear m15 f L14 M14 K14 AM NB
      go_wp2_with fail
      refine (run_open (k := 41) w15 M15.out.ld.dsk (by omega) HT.out HB.out K15.out EX2.out.stands hr2 (by decide) hl2 HS2.out HM2.out).mono ?_
      rintro e w16 ⟨bk, lvk, rfl, p16, _, _, f⟩
      have L16 := Lib.hid (L15.out.past M15.out.ld.dsk (M15.out.ld.dsk.apart L15.out.row) f)
      have K16 := Lib.hid (M15.out.ld.dsk.still HB.out K15.out f)
      have P16 := Lib.hid p16
      clear p16 f M15 L15 K15
      go_wp2_with fail
      refine (records_any w16 L16.out).mono ?_
      rintro e w17 ⟨rv4, rfl, r17, k17⟩
      obtain ⟨a17, c17, rfl⟩ := r17.form
      have q17 : Kept w16 (w17.alloc (.cells #[.string T] 9)) := k17.alloc _
      have R17 : Hid (OffV 9 1 (w17.alloc (.cells #[.string T] 9)) w16.heap.size (.slice a17 x.l.length c17) x.l.length (x.l.map str)) := Lib.hid (OffV.kept r17 ((Kept.refl w17).alloc _))
      have HB17 : Hid (w16.heap.size ≤ (w17.alloc (.cells #[.string T] 9)).heap.size) := Lib.hid q17.size
      have Q17 := Lib.hid q17
      have hl1 : x.l.length + 1 ≤ 1000001 := by omega
      clear r17 k17 L16 q17
      go_wp2_with (at_builtin; refine wp_rapp rowS (base := w16.heap.size) (v := .slice a17 x.l.length c17) (n := x.l.length) (m := 1) (xs := x.l.map str) (ys := [.string T]) R17.out (Src.one w17 [.string T] 9 rfl (one_one T)) hl1 HB17.out rfl _ _ rfl rfl rfl ?_)
      intro v18 w18 o18 g18 b18 n18
      have k18 : Kept w16 w18 := But.after Q17.out b18 fun i hi e => by have := (R17.out.blk e).1; omega
      have o19 : Tx w18 w16.heap.size v18 (x.act (.app T.data.toList)).l := by
        show OffV _ _ _ _ _ (x.l ++ [T.data.toList]).length ((x.l ++ [T.data.toList]).map str)
        rw [List.length_append, List.map_append]
        exact o18
      obtain ⟨a18, c18, rfl⟩ := o19.form
      have R18 := Lib.hid o19
      have P18 := Lib.hid (P16.out.kept k18)
      have K18 := Lib.hid (K16.out.trans k18)
      generalize x.act (.app T.data.toList) = y at P18 R18
      clear o18 g18 b18 n18 o19 k18 R17 HB17 Q17 P16 K16
      go_wp2_with fail
      refine (records_any w18 P18.out.ld.log).mono ?_
      rintro e w19 ⟨rv5, rfl, r19, k19⟩
      have K19 := Lib.hid (K18.out.trans k19)
      have R19 := Lib.hid (R18.out.kept k19)
      have Q19 := Lib.hid r19
      clear r19 k19 P18 K18 R18
      go_wp2_with fail
      refine (same_any _ _ y.l y.l _ Q19.out.strs R19.out.strs).mono ?_
      rintro e w20 ⟨rfl, k20⟩
      rw [show (y.l == y.l) = true by simp]
      have K20 := Lib.hid (K19.out.trans k20)
      clear k20 K19
      go_wp2_with fail
      refine (fix_any w20 (HT.out.kept K20.out)).mono ?_
      rintro e w21 ⟨rfl, k21⟩
      go_wp2
      go_ret
      exact ⟨rfl, (KW.out.trans K20.out).trans k21⟩
end Go.Proofs.YtenhncohhikllaaDoor
