/-
  The walk of the law TopicCovers.
-/
import Derived.Test.YtlgjnngacganmaaTfresh
namespace Go.Proofs.Ytlgjnngacganmaa
open Go.ChangeShapes Go.WideShapes Go.ChangeAt Go.RowKit

set_option maxHeartbeats 2000000 in
set_option maxRecDepth 100000 in
theorem tcovers_walk (a b : ByteArray) (w : World) (ha : a.size ≤ maxLen) (hb : b.size ≤ maxLen) :
    Calls Try.prog 5 #[.string a, .string b] w fun e w' => e = .returned (.bool true) ∧ Kept w w' := by
  unfold maxLen at ha hb
  go_enter Try.func5, Try.ntmps5
  go_upto_region 3 with fail
  have sa := cut_size a 200
  have sb := cut_size b 200
  simp only [Int.cast_ofNat_Int] at sa sb
  generalize a.extract 0 (min (a.size : Int) 200).toNat = A at sa ⊢
  generalize b.extract 0 (min (b.size : Int) 200).toNat = B at sb ⊢
  clear ha hb
  have K := Kept.refl w
  cases hf : Tp.filter A.data.toList with
  | false =>
    have Hf := Lib.hid hf
    have Hc : Hid (Tp.covers A.data.toList B.data.toList = false) := by show _ = _; rw [Tp.covers, hf]; rfl
    have Hm : Hid (Tp.meet A.data.toList B.data.toList = false) := by show _ = _; rw [Tp.meet, hf]; rfl
    clear hf
    go_wp2_with fail
    refine (filter_from K A (by omega) _ Hf.out).mono ?_
    rintro e w1 ⟨rfl, K1⟩
    go_wp2_with fail
    refine (covers_from K1 A B (by omega) (by omega) _ Hc.out).mono ?_
    rintro e w2 ⟨rfl, K2⟩
    go_wp2_with fail
    refine (meet_from K2 A B (by omega) (by omega) _ Hm.out).mono ?_
    rintro e w3 ⟨rfl, K3⟩
    go_wp2_with fail
    refine (fix_from K3).mono ?_
    rintro e w4 ⟨rfl, Kf⟩
    go_wp2_with fail
    go_ret
    exact ⟨rfl, Kf⟩
  | true =>
    have Hf := Lib.hid hf
    clear hf
    cases hg : Tp.filter B.data.toList with
    | false =>
      have Hg := Lib.hid hg
      have Hc : Hid (Tp.covers A.data.toList B.data.toList = false) := by show _ = _; rw [Tp.covers, hg]; simp
      have Hm : Hid (Tp.meet A.data.toList B.data.toList = false) := by show _ = _; rw [Tp.meet, hg]; simp
      clear hg
      go_wp2_with fail
      refine (filter_from K A (by omega) _ Hf.out).mono ?_
      rintro e w0 ⟨rfl, K0⟩
      go_wp2_with fail
      refine (filter_from K0 B (by omega) _ Hg.out).mono ?_
      rintro e w1 ⟨rfl, K1⟩
      go_wp2_with fail
      refine (covers_from K1 A B (by omega) (by omega) _ Hc.out).mono ?_
      rintro e w2 ⟨rfl, K2⟩
      go_wp2_with fail
      refine (meet_from K2 A B (by omega) (by omega) _ Hm.out).mono ?_
      rintro e w3 ⟨rfl, K3⟩
      go_wp2_with fail
      refine (fix_from K3).mono ?_
      rintro e w4 ⟨rfl, Kf⟩
      go_wp2_with fail
      go_ret
      exact ⟨rfl, Kf⟩
    | true =>
      have Hg := Lib.hid hg
      clear hg
      go_wp2_with fail
      refine (filter_from K A (by omega) _ Hf.out).mono ?_
      rintro e w0 ⟨rfl, K0⟩
      go_wp2_with fail
      refine (filter_from K0 B (by omega) _ Hg.out).mono ?_
      rintro e w1 ⟨rfl, K1⟩
      go_wp2_with fail
      refine (rlevels_any A _ (by omega)).mono ?_
      rintro e w3 ⟨v3, rfl, o3, q3⟩
      have K3 := K1.trans q3
      obtain ⟨g, off, cap, rfl, hcap, hcm, hat⟩ := lev_open o3
      have hll := Tp.lev_length A.data.toList
      rw [str_size] at hll
      have Hat := Lib.hid hat
      have Hca : Hid ((∀ x ∈ Tp.lev A.data.toList, x ≠ Tp.zz) → Tp.covers A.data.toList B.data.toList = Tp.allTo A.data.toList B.data.toList 8) := fun h => Tp.covers_all Hf.out Hg.out h
      clear hat o3 q3 K K0 K1
      obtain ⟨xs, hxs⟩ : ∃ xs, Tp.lev A.data.toList = xs := ⟨_, rfl⟩
      rw [hxs] at Hat Hca hcap hll ⊢
      clear hxs
      unfold maxLen at hcm
      go_wp2
      go_loop [6] (fun i => ∃ k : Nat, k ≤ xs.length ∧ i = .int .i64 k ∧ ∀ j (hj : j < xs.length), j < k → xs[j] ≠ Tp.zz) (fun i => xs.length - (intOf i).toNat)
      case atStart => exact ⟨0, Nat.zero_le _, rfl, fun j _ h => absurd h (Nat.not_lt_zero _)⟩
      case round =>
        obtain ⟨k, hk, rfl, hn⟩ := hrel
        have Hn := Lib.hid hn
        clear hn
        by_cases hlt : k < xs.length
        · obtain ⟨p, cp, lp⟩ := Hat.out k hlt
          by_cases e1 : (p.toList == [122, 122, 95, 57, 45, 122, 122, 95, 57, 45, 122, 122]) = true
          · clear lp
            go_wp2_with fail
            refine (fix_from K3).mono ?_
            rintro e w4 ⟨rfl, Kf⟩
            go_wp2_with fail
            go_ret
            exact ⟨rfl, Kf⟩
          · rw [Bool.not_eq_true] at e1
            have Hne : Hid (xs[k] ≠ Tp.zz) := by
              show _ ≠ _
              rw [← lp, ← toList_eq]
              exact beq_eq_false_iff_ne.1 e1
            clear lp
            go_wp2
            go_round
            case rel =>
              refine ⟨k + 1, hlt, by go_num, fun j hj hjk => ?_⟩
              by_cases e : j = k
              · subst e; exact Hne.out
              · exact Hn.out j hj (by omega)
            case measure => simp [intOf]; omega
        · have Hcov := Lib.hid (Hca.out fun x hx => by
            obtain ⟨j, hj, rfl⟩ := List.getElem_of_mem hx
            exact Hn.out j hj (by omega))
          clear Hca Hn Hat
          go_wp2
          go_loopw [7, 8] (fun al n wr => ∃ N : Nat, 1 ≤ N ∧ N ≤ 9 ∧ n = .int .i64 N ∧ al = .bool (Tp.allTo A.data.toList B.data.toList (N - 1)) ∧ Kept w wr) (fun _ n _ => 9 - (intOf n).toNat)
          case atStart => exact ⟨1, by omega, by omega, rfl, rfl, K3⟩
          case round =>
            obtain ⟨N, hN1, hN9, rfl, rfl, kr⟩ := hrel
            by_cases hN : N ≤ 8
            · have Hst : Hid (Tp.allTo A.data.toList B.data.toList (N + 1 - 1) = (Tp.allTo A.data.toList B.data.toList (N - 1) && (!(Tp.rowv (Tp.lev B.data.toList) N).2 || Tp.match_ A.data.toList (Tp.freshL B.data.toList N)))) := by
                show _ = _
                obtain ⟨M, rfl⟩ : ∃ M, N = M + 1 := ⟨N - 1, by omega⟩
                rfl
              have Hms : Hid ((Tp.rowv (Tp.lev B.data.toList) N).2 = true → Tp.match_ B.data.toList (Tp.freshL B.data.toList N) = true) := fun h => Tp.match_fresh_self Hg.out hN1 hN h
              have Hrs : Hid ((Tp.rowv (Tp.lev B.data.toList) N).2 = true → Tp.right (Tp.freshL B.data.toList N) = true) := fun h => Tp.right_fresh Hg.out hN1 hN h
              generalize hal : Tp.allTo A.data.toList B.data.toList (N - 1) = al at Hst ⊢
              clear hal
              go_wp2_with fail
              refine (fresh_any B N _ (by omega) hN).mono ?_
              rintro e w5 ⟨T, rfl, hT, zT, q5⟩
              have K5 := kr.trans q5
              generalize (Tp.rowv (Tp.lev B.data.toList) N).2 = is at Hst Hms Hrs hT ⊢
              have HT := Lib.hid hT
              clear hT q5
              cases is with
              | false =>
                cases al with
                | false =>
                  go_wp2
                  go_roundw
                  case rel => exact ⟨N + 1, by omega, by omega, by go_num, by rw [Hst.out]; rfl, K5⟩
                  case measure => simp [intOf]; omega
                | true =>
                  go_wp2
                  go_roundw
                  case rel => exact ⟨N + 1, by omega, by omega, by go_num, by rw [Hst.out]; rfl, K5⟩
                  case measure => simp [intOf]; omega
              | true =>
                have HTe := Lib.hid (HT.out rfl)
                have Hm1 : Hid (Tp.match_ B.data.toList T.data.toList = true) := by show _ = _; rw [HT.out rfl]; exact Hms.out rfl
                have Hr1 : Hid (Tp.right T.data.toList = true) := by show _ = _; rw [HT.out rfl]; exact Hrs.out rfl
                cases al with
                | false =>
                  go_wp2_with fail
                  refine (match_from K5 B T (by omega) (by omega) _ Hm1.out).mono ?_
                  rintro e w6 ⟨rfl, K6⟩
                  go_wp2_with fail
                  refine (right_from K6 T (by omega) _ Hr1.out).mono ?_
                  rintro e w7 ⟨rfl, K7⟩
                  go_wp2
                  go_roundw
                  case rel => exact ⟨N + 1, by omega, by omega, by go_num, by rw [Hst.out]; rfl, K7⟩
                  case measure => simp [intOf]; omega
                | true =>
                  go_wp2_with fail
                  refine (match_from K5 B T (by omega) (by omega) _ Hm1.out).mono ?_
                  rintro e w6 ⟨rfl, K6⟩
                  go_wp2_with fail
                  refine (right_from K6 T (by omega) _ Hr1.out).mono ?_
                  rintro e w7 ⟨rfl, K7⟩
                  generalize hv : Tp.match_ A.data.toList (Tp.freshL B.data.toList N) = v at Hst
                  have Hv : Hid (Tp.match_ A.data.toList T.data.toList = v) := by show _ = _; rw [HTe.out]; exact hv
                  clear hv
                  go_wp2_with fail
                  refine (match_from K7 A T (by omega) (by omega) _ Hv.out).mono ?_
                  rintro e w8 ⟨rfl, K8⟩
                  go_wp2
                  go_roundw
                  case rel => exact ⟨N + 1, by omega, by omega, by go_num, by rw [Hst.out]; rfl, K8⟩
                  case measure => simp [intOf]; omega
            · have hN8 : N = 9 := by omega
              subst hN8
              have hN2 : ¬ ((9 : Nat) : Int) ≤ 8 := by omega
              rw [show 9 - 1 = 8 from rfl]
              generalize Tp.allTo A.data.toList B.data.toList 8 = al at Hcov ⊢
              have hal : (al == al) = true := by cases al <;> rfl
              go_wp2_with fail
              refine (covers_from kr A B (by omega) (by omega) _ Hcov.out).mono ?_
              rintro e w6 ⟨rfl, K6⟩
              go_wp2_with fail
              refine (fix_from K6).mono ?_
              rintro e w7 ⟨rfl, Kf⟩
              go_wp2_with fail
              go_ret
              exact ⟨rfl, Kf⟩
end Go.Proofs.Ytlgjnngacganmaa
