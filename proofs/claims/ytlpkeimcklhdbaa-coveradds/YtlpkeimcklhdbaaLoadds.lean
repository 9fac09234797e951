/-
  The walk of the law CoverAdds.
-/
import Derived.Test.YtlpkeimcklhdbaaOlaw
import Derived.Test.YtlpkeimcklhdbaaTref2
namespace Go.Proofs.Ytlpkeimcklhdbaa
open Go.ChangeShapes Go.WideShapes Go.ChangeAt Go.RowKit

set_option maxHeartbeats 2000000 in
set_option maxRecDepth 100000 in
theorem oadds_walk (av : Option Addr) (len cap : Nat) (z : Nat → ByteArray) (f : ByteArray) (w : World) (hl : StrArg w av len cap z) (hf : f.size ≤ maxLen) :
    Calls Try.prog 8 #[.slice av len cap, .string f] w fun e w' => e = .returned (.bool true) ∧ Kept w w' := by
  have A1 := Lib.hid hl
  unfold maxLen at hf
  clear hl
  go_enter Try.func8, Try.ntmps8
  go_wp2_with fail
  refine (few_any _ _ _ z _ A1.out).mono ?_
  rintro e w1 ⟨l, xs, rfl, fl, k1⟩
  have FL := Lib.hid fl
  clear fl
  go_wp2_with fail
  obtain ⟨F, hF, sF⟩ := cut_text f
  rw [hF]
  clear hF hf
  refine (Least_any l xs w1 FL.out.strs FL.out.l10 FL.out.s10).mono ?_
  rintro e w2 ⟨u2, rfl, o2, k2⟩
  have O2 := Lib.hid o2
  clear o2
  go_wp2_with fail
  have l3 := lit_own [F.data.toList] w2 (by simp)
  have k3 : Kept w2 (w2.alloc (.cells ([F.data.toList].map str).toArray 9)) := Kept.alloc (Kept.refl w2) _
  have K3 := k2.trans k3
  have hs1 : ∀ x ∈ [F.data.toList], x.length ≤ 1000 := fun x hx => by rw [List.mem_singleton] at hx; subst hx; rw [str_size]; omega
  refine (Join_any l _ xs [F.data.toList] _ _ _ (FL.out.kept K3).own.1 l3 FL.out.l4 (by simp) FL.out.s10 hs1).mono ?_
  rintro e w4 ⟨u4, rfl, o4, k4⟩
  have K4 := K3.trans k4
  have k24 := k3.trans k4
  have O4 := Lib.hid o4
  have Hs4 : Hid (∀ x ∈ Tp.least (xs ++ [F.data.toList]), x.length ≤ 1000) := fun x hx => by
    rcases List.mem_append.1 (Tp.least_sub hx).1 with h | h
    · exact FL.out.s10 x h
    · exact hs1 x h
  have hl4 : (Tp.least (xs ++ [F.data.toList])).length ≤ 1000 := by
    have h1 := Tp.least_len (xs ++ [F.data.toList])
    have h2 := FL.out.len
    rw [List.length_append] at h1
    simp at h1
    omega
  have hl2 : (Tp.least xs).length ≤ 1000 := Nat.le_trans (Tp.least_len xs) FL.out.l10
  clear o4 l3 k3 hs1 K3
  go_wp2_with fail
  refine (rfilter_any F w4 (by omega)).mono ?_
  rintro e w5 ⟨rfl, k5⟩
  have K5 := K4.trans k5
  have k25 := k24.trans k5
  cases hf : Tp.filter F.data.toList with
  | false =>
    have e1 := Tp.adds_none (l := xs) hf
    have e2 := Tp.holds_none (l := xs) hf
    rw [e1] at O4
    clear hf e1
    go_wp2_with fail
    refine (same_true u4 u2 _ w5 (O4.out.kept k5).strs (O2.out.kept k25).strs).mono ?_
    rintro e w6 ⟨rfl, k6⟩
    have K6 := K5.trans k6
    go_wp2_with fail
    refine (Holds_any l xs F w6 (FL.out.kept K6).strs FL.out.l10 FL.out.s10 (by omega)).mono ?_
    rintro e w7 ⟨rfl, k7⟩
    have K7 := K6.trans k7
    rw [e2]
    clear e2
    go_wp2_with fail
    refine (fixed5_any w7).mono ?_
    rintro e w9 ⟨rfl, k9⟩
    go_wp2
    go_ret
    exact ⟨rfl, (k1.trans K7).trans k9⟩
  | true =>
    have Hf := Lib.hid hf
    clear hf
    go_wp2_with fail
    refine (Holds_any l xs F w5 (FL.out.kept K5).strs FL.out.l10 FL.out.s10 (by omega)).mono ?_
    rintro e w6 ⟨rfl, k6⟩
    have K6 := K5.trans k6
    have k46 := k5.trans k6
    have Hh := Lib.hid (Tp.holds_adds (l := xs) Hf.out)
    obtain ⟨ns, hns⟩ : ∃ ns, Tp.least (xs ++ [F.data.toList]) = ns := ⟨_, rfl⟩
    cases hh : Tp.holds xs F.data.toList with
    | false =>
      have hin := Tp.adds_in Hf.out hh
      rw [hns] at O4 Hs4 hl4 Hh hin
      have Hin := Lib.hid hin
      clear hh hns hin
      obtain ⟨a, capn, rfl, hc1, hc2, hat⟩ := strs_get (O4.out.kept k46).strs
      unfold maxLen at hc2
      have HA := Lib.hid hat
      clear hat
      go_wp2
      go_loopw [7, 8] (fun t i wr => ∃ (k : Nat) (b : Bool), k ≤ ns.length ∧ t = .bool b ∧ i = .int .i64 k ∧ b = (ns.take k).any (fun x => x == F.data.toList) ∧ Kept w6 wr) (fun _ i _ => ns.length - (intOf i).toNat)
      case atStart => exact ⟨0, false, Nat.zero_le _, rfl, rfl, rfl, Kept.refl _⟩
      case round =>
        obtain ⟨k, b, hk, rfl, rfl, hb, kr⟩ := hrel
        have HB := Lib.hid hb
        clear hb
        by_cases hlt : k < ns.length
        · obtain ⟨b1, off, p, rfl, hb1, hc, lp⟩ := HA.out k hlt
          have hck := (Below.cell kr (p := ⟨b1, off + k, none⟩) hb1).trans hc
          have Hn : Hid ((ns.take (k + 1)).any (fun x => x == F.data.toList) = (b || (p.toList == F.toList))) := by
            show _ = _
            rw [List.take_add_one, List.getElem?_eq_getElem hlt, List.any_append, ← HB.out, ← lp, toList_eq, toList_eq]
            simp
          clear hc lp
          cases b with
          | true =>
            go_wp2
            go_roundw
            case rel => exact ⟨k + 1, true, by omega, rfl, by go_num, by rw [Hn.out]; rfl, kr⟩
            case measure => simp [intOf]; omega
          | false =>
            cases he : (p.toList == F.toList) with
            | true =>
              rw [he] at Hn
              go_wp2
              go_roundw
              case rel => exact ⟨k + 1, true, by omega, rfl, by go_num, by rw [Hn.out]; rfl, kr⟩
              case measure => simp [intOf]; omega
            | false =>
              rw [he] at Hn
              go_wp2
              go_roundw
              case rel => exact ⟨k + 1, false, by omega, rfl, by go_num, by rw [Hn.out]; rfl, kr⟩
              case measure => simp [intOf]; omega
        · have hke : k = ns.length := by omega
          subst hke
          rw [List.take_length] at HB
          have hbt : b = true := by
            rw [HB.out, List.any_eq_true]
            exact ⟨_, Hin.out, by simp⟩
          subst hbt
          have K7 := K6.trans kr
          go_wp2_with fail
          refine (Holds_any _ ns F wr ((O4.out.kept k46).kept kr).strs hl4 Hs4.out (by omega)).mono ?_
          rintro e w8 ⟨rfl, k8⟩
          have K8 := K7.trans k8
          rw [Hh.out]
          go_wp2_with fail
          refine (fixed5_any w8).mono ?_
          rintro e w9 ⟨rfl, k9⟩
          go_wp2
          go_ret
          exact ⟨rfl, (k1.trans K8).trans k9⟩
    | true =>
      have hlen := Tp.adds_len hh
      rw [hns] at O4 Hs4 hl4 Hh hlen
      clear hh hns
      obtain ⟨a4, cap4, rfl, _, _, _⟩ := strs_get O4.out.strs
      obtain ⟨a2, cap2, rfl, _, _, _⟩ := strs_get O2.out.strs
      have e0 : ((ns.length : Int) == ((Tp.least xs).length : Int)) = true := by rw [hlen]; simp
      clear hlen
      go_wp2_with fail
      refine (Holds_any _ ns F w6 (O4.out.kept k46).strs hl4 Hs4.out (by omega)).mono ?_
      rintro e w8 ⟨rfl, k8⟩
      have K8 := K6.trans k8
      rw [Hh.out]
      go_wp2_with fail
      refine (fixed5_any w8).mono ?_
      rintro e w9 ⟨rfl, k9⟩
      go_wp2
      go_ret
      exact ⟨rfl, (k1.trans K8).trans k9⟩
end Go.Proofs.Ytlpkeimcklhdbaa
