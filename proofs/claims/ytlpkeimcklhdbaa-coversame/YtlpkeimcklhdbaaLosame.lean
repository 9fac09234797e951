/-
  The walk of the law CoverSame.
-/
import Derived.Test.YtlpkeimcklhdbaaOlaw
import Derived.Test.YtlpkeimcklhdbaaTref6
namespace Go.Proofs.Ytlpkeimcklhdbaa
open Go.ChangeShapes Go.WideShapes Go.ChangeAt Go.RowKit

set_option maxHeartbeats 4000000 in
set_option maxRecDepth 100000 in
theorem osame_walk (av : Option Addr) (len cap : Nat) (z : Nat → ByteArray) (t : ByteArray) (w : World) (hl : StrArg w av len cap z) (ht : t.size ≤ maxLen) :
    Calls Try.prog 5 #[.slice av len cap, .string t] w fun e w' => e = .returned (.bool true) ∧ Kept w w' := by
  have A1 := Lib.hid hl
  unfold maxLen at ht
  clear hl
  go_enter Try.func5, Try.ntmps5
  go_wp2_with fail
  refine (few_any _ _ _ z _ A1.out).mono ?_
  rintro e w1 ⟨l, xs, rfl, fl, k1⟩
  have FL := Lib.hid fl
  clear fl
  go_wp2_with fail
  obtain ⟨T, hT, sT⟩ := cut_text t
  rw [hT]
  clear hT ht
  refine (Least_any l xs w1 FL.out.strs FL.out.l10 FL.out.s10).mono ?_
  rintro e w2 ⟨u2, rfl, o2, k2⟩
  have O2 := Lib.hid o2
  clear o2
  have HL1 := Lib.hid (Tp.lets_least xs T.data.toList)
  have hll := Tp.least_len xs
  have lxs := FL.out.len
  have HH := Lib.hid (fun x (hx : x ∈ xs) (hf : Tp.filter x = true) => (Tp.holds_least xs x).trans (Tp.holds_mem hx hf))
  have HAp := Lib.hid (fun x y (hx : x ∈ Tp.least xs) (hy : y ∈ Tp.least xs) (hne : x ≠ y) => Tp.least_apart hx hy hne)
  have HSm : Hid (∀ x ∈ Tp.least xs, x.length ≤ 120) := fun x hx => FL.out.short x (Tp.least_sub hx).1
  have HLL := Lib.hid (Tp.least_least xs)
  have HNo : Hid (∀ i j (hi : i < (Tp.least xs).length) (hj : j < (Tp.least xs).length), i ≠ j → (Tp.least xs)[i] ≠ (Tp.least xs)[j]) := fun i j hi hj hne e => by
    rcases Nat.lt_or_gt_of_ne hne with q | q
    · have := List.pairwise_iff_getElem.1 (Tp.least_ord xs) i j hi hj q; rw [e, Tp.less_irrefl] at this; cases this
    · have := List.pairwise_iff_getElem.1 (Tp.least_ord xs) j i hj hi q; rw [e, Tp.less_irrefl] at this; cases this
  obtain ⟨ms, hms⟩ : ∃ ms, Tp.least xs = ms := ⟨_, rfl⟩
  rw [hms] at O2 HL1 hll HH HAp HSm HLL HNo
  clear hms
  go_wp2_with fail
  refine (Lets_any l xs T w2 (FL.out.kept k2).strs FL.out.l10 FL.out.s10 (by omega)).mono ?_
  rintro e w3 ⟨rfl, k3⟩
  have s10 : ∀ x ∈ ms, x.length ≤ 1000 := fun x hx => Nat.le_trans (HSm.out x hx) (by omega)
  have S10 := Lib.hid s10
  clear s10
  go_wp2_with fail
  refine (Lets_any u2 ms T w3 (O2.out.kept k3).strs (by omega) S10.out (by omega)).mono ?_
  rintro e w4 ⟨rfl, k4⟩
  rw [HL1.out]
  have e1 : (Tp.lets xs T.data.toList != Tp.lets xs T.data.toList) = false := by simp
  generalize Tp.lets xs T.data.toList = b1 at e1 ⊢
  have k24 := k3.trans k4
  have K4 := k2.trans k24
  obtain ⟨a, capl, rfl, hc1, hc2, hat⟩ := strs_get (FL.out.kept K4).strs
  obtain ⟨a2, cap2, rfl, hd1, hd2, hat2⟩ := strs_get (O2.out.kept k24).strs
  unfold maxLen at hc2 hd2
  have HA := Lib.hid hat
  have HM := Lib.hid hat2
  have OM := Lib.hid (O2.out.kept k24)
  have Kk := k1.trans K4
  clear hat hat2
  have e2 : ¬ (xs.length < ms.length) := by omega
  go_wp2
  go_loopw [6] (fun i wr => ∃ k : Nat, k ≤ xs.length ∧ i = .int .i64 k ∧ Kept w4 wr) (fun i _ => xs.length - (intOf i).toNat)
  case atStart => exact ⟨0, Nat.zero_le _, rfl, Kept.refl _⟩
  case round =>
    obtain ⟨k, hk, rfl, kr⟩ := hrel
    by_cases hlt : k < xs.length
    · obtain ⟨b, off, p, rfl, hb, hc, lp⟩ := HA.out k hlt
      have hck := (Below.cell kr (p := ⟨b, off + k, none⟩) hb).trans hc
      have hps : p.size ≤ 120 := by rw [← str_size p, lp]; exact FL.out.short _ (List.getElem_mem hlt)
      have HP := Lib.hid (HH.out p.data.toList (by rw [lp]; exact List.getElem_mem hlt))
      clear hc lp
      go_wp2_with fail
      refine (rfilter_any p _ (by omega)).mono ?_
      rintro e w5 ⟨rfl, k5⟩
      have kr5 := kr.trans k5
      have hck1 := (Below.cell k5 (p := ⟨b, off + k, none⟩) (Nat.lt_of_lt_of_le hb kr.size)).trans hck
      clear hck
      cases hf : Tp.filter p.data.toList with
      | false =>
        clear hf hck1
        go_wp2
        go_roundw
        case rel =>
          (first
            | exact ⟨k + 1, by omega, by go_num, kr5⟩
            | (repeat apply Exists.intro
               refine ⟨?_, rfl⟩
               exact ⟨k + 1, by omega, by go_num, kr5⟩))
        case measure => simp [intOf]; omega
      | true =>
        have Hh := Lib.hid (HP.out hf)
        clear hf
        go_wp2_with fail
        refine (Holds_any _ ms p w5 (OM.out.kept kr5).strs (by omega) S10.out (by omega)).mono ?_
        rintro e w6 ⟨rfl, k6⟩
        rw [Hh.out]
        go_wp2
        go_roundw
        case rel =>
          (first
            | exact ⟨k + 1, by omega, by go_num, kr5.trans k6⟩
            | (repeat apply Exists.intro
               refine ⟨?_, rfl⟩
               exact ⟨k + 1, by omega, by go_num, kr5.trans k6⟩))
        case measure => simp [intOf]; omega
    · go_wp2
      go_loopw [7] (fun i wr => ∃ k : Nat, k ≤ ms.length ∧ i = .int .i64 k ∧ Kept w4 wr) (fun i _ => ms.length - (intOf i).toNat)
      case atStart => exact ⟨0, Nat.zero_le _, rfl, kr⟩
      case round =>
        clear kr
        obtain ⟨i, hi, rfl, kr⟩ := hrel
        obtain ⟨wo, rfl⟩ : ∃ wo, wo = wr := ⟨_, rfl⟩
        by_cases hit : i < ms.length
        · obtain ⟨b, off, p, rfl, hb, hpc, lp⟩ := HM.out i hit
          have hps : p.size ≤ 120 := by rw [← str_size p, lp]; exact HSm.out _ (List.getElem_mem hit)
          have Hc := Lib.hid hpc
          have LP := Lib.hid lp
          clear hpc lp
          go_wp2
          go_loopw [8] (fun j wx => ∃ m : Nat, m ≤ ms.length ∧ j = .int .i64 m ∧ Kept w4 wx) (fun j _ => ms.length - (intOf j).toNat)
          case atStart => exact ⟨0, Nat.zero_le _, rfl, kr⟩
          case round =>
            obtain ⟨m, hm, rfl, kx⟩ := hrel
            by_cases hmt : m < ms.length
            · obtain ⟨b2, off2, q, hbo, hb2, hq, lq⟩ := HM.out m hmt
              cases hbo
              have hqs : q.size ≤ 120 := by rw [← str_size q, lq]; exact HSm.out _ (List.getElem_mem hmt)
              have t1 := KW.cell ((Below.cell kx (p := ⟨b, off + i, none⟩) hb).trans Hc.out)
              have t2 := KW.cell ((Below.cell kx (p := ⟨b, off + m, none⟩) hb2).trans hq)
              by_cases him : i = m
              · have e3 : ((i : Int) != (m : Int)) = false := by simp [him]
                have Him := Lib.hid him
                clear him hq lq
                go_wp2_with fail
                have nn : Nonempty (KW wr) := ⟨⟨wr, Kept.refl wr⟩⟩
                refine wp_region_kept (by kernel_rfl) (by kernel_rfl) ?_
                repeat (go_big_quiet_step (fail))
                refine wpQuiet_nil ?_
                intro w6 hw6
                have k6 : Kept w4 w6 := by
                  obtain ⟨p, rfl⟩ := hw6
                  exact kx.trans p.h
                clear hw6 nn t1 t2
                go_wp2
                go_roundw
                case rel => exact ⟨m + 1, by omega, by go_num, k6⟩
                case measure => simp [intOf]; omega
              · have e3 : ((i : Int) != (m : Int)) = true := by rw [bne_iff_ne]; omega
                have hcv : Tp.covers p.data.toList q.data.toList = false := by
                  rw [LP.out, lq]
                  exact HAp.out _ _ (List.getElem_mem hit) (List.getElem_mem hmt) (HNo.out i m hit hmt him)
                have ca : ∀ x : KW wr, Calls Try.prog 24 #[.string p, .string q] x.v fun e w' => e = .returned (.bool false) ∧ Kept x.v w' := fun x => by
                  have := rcovers_any p q x.v (by omega) (by omega)
                  rwa [hcv] at this
                have CA := Lib.hid ca
                clear ca hcv hq lq
                go_wp2_with fail
                have nn : Nonempty (KW wr) := ⟨⟨wr, Kept.refl wr⟩⟩
                refine wp_region_kept (by kernel_rfl) (by kernel_rfl) ?_
                repeat (go_big_quiet_step ((go_at_call 24; exact KW.calls _ (CA.out _))))
                refine wpQuiet_nil ?_
                intro w6 hw6
                have k6 : Kept w4 w6 := by
                  obtain ⟨p, rfl⟩ := hw6
                  exact kx.trans p.h
                clear hw6 nn t1 t2
                go_wp2
                go_roundw
                case rel => exact ⟨m + 1, by omega, by go_num, k6⟩
                case measure => simp [intOf]; omega
            · go_wp2
              go_roundw
              case rel => exact ⟨i + 1, by omega, by go_num, kx⟩
              case measure => simp [intOf]; omega
        · go_wp2_with fail
          refine (Least_any _ ms wo (OM.out.kept kr).strs (by omega) S10.out).mono ?_
          rintro e w7 ⟨u7, rfl, o7, k7⟩
          rw [HLL.out] at o7
          have O7 := Lib.hid o7
          clear o7
          go_wp2_with fail
          refine (same_true u7 _ ms w7 O7.out.strs (OM.out.kept (kr.trans k7)).strs).mono ?_
          rintro e w8 ⟨rfl, k8⟩
          go_wp2_with fail
          refine (fixed5_any w8).mono ?_
          rintro e w9 ⟨rfl, k9⟩
          go_wp2
          go_ret
          exact ⟨rfl, Kk.trans (((kr.trans k7).trans k8).trans k9)⟩
end Go.Proofs.Ytlpkeimcklhdbaa
