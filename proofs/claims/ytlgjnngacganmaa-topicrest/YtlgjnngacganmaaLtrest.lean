/-
  The walk of the law TopicRest.
-/
import Derived.Test.YtlgjnngacganmaaTmath4
namespace Go.Proofs.Ytlgjnngacganmaa
open Go.ChangeShapes Go.WideShapes Go.ChangeAt Go.RowKit

set_option maxHeartbeats 2000000 in
set_option maxRecDepth 100000 in
theorem trest_walk (a b : ByteArray) (w : World) (ha : a.size ≤ maxLen) (hb : b.size ≤ maxLen) :
    Calls Try.prog 10 #[.string a, .string b] w fun e w' => e = .returned (.bool true) ∧ Kept w w' := by
  unfold maxLen at ha hb
  go_enter Try.func10, Try.ntmps10
  go_upto_region 3 with fail
  have sa := cut_size a 150
  have sb := cut_size b 150
  simp only [Int.cast_ofNat_Int] at sa sb
  generalize a.extract 0 (min (a.size : Int) 150).toNat = F at sa ⊢
  generalize b.extract 0 (min (b.size : Int) 150).toNat = S at sb ⊢
  clear ha hb
  have K := Kept.refl w
  obtain ⟨G, hG, zG, lG⟩ := app_name F #[47, 35]
  simp only [List.size_toArray, List.length_cons, List.length_nil] at zG
  have HlG := Lib.hid lG
  clear lG
  cases hg : Tp.filter G.data.toList with
  | false =>
    have Hg := Lib.hid hg
    clear hg
    go_wp2_with fail
    refine (filter_from K G (by omega) _ Hg.out).mono ?_
    rintro e w1 ⟨rfl, K1⟩
    go_wp2_with fail
    refine (match_from K1 G S (by omega) (by omega) _ (Tp.match_filter Hg.out)).mono ?_
    rintro e w2 ⟨rfl, K2⟩
    go_wp2_with fail
    refine (fix_from K2).mono ?_
    rintro e w3 ⟨rfl, Kf⟩
    go_wp2_with fail
    go_ret
    exact ⟨rfl, Kf⟩
  | true =>
    have Hg := Lib.hid hg
    have hg2 := hg
    rw [HlG.out] at hg2
    have Hf := Lib.hid (Tp.filter_rest hg2).2
    have Hm : Hid (Tp.match_ G.data.toList S.data.toList = (Tp.someTo F.data.toList (Tp.lev S.data.toList) (Tp.lev S.data.toList).length && Tp.right S.data.toList)) := by show _ = _; rw [HlG.out]; exact Tp.match_rest hg2
    have Hc1 : Hid (Tp.covers G.data.toList F.data.toList = true) := by show _ = _; rw [HlG.out]; exact Tp.covers_rest hg2
    have Hc2 := Lib.hid (Tp.covers_refl hg)
    clear hg hg2
    go_wp2_with fail
    refine (filter_from K G (by omega) _ Hg.out).mono ?_
    rintro e w1 ⟨rfl, K1⟩
    go_wp2_with fail
    refine (filter_from K1 F (by omega) _ Hf.out).mono ?_
    rintro e w2 ⟨rfl, K2⟩
    go_wp2_with fail
    refine (rlevels_any S _ (by omega)).mono ?_
    rintro e w3 ⟨v3, rfl, o3, q3⟩
    have K3 := K2.trans q3
    obtain ⟨g, off, cap, rfl, hcap, hcm, hat⟩ := lev_open o3
    have hll := Tp.lev_length S.data.toList
    rw [str_size] at hll
    have hjl : ∀ k, (Tp.join ((Tp.lev S.data.toList).take k)).length ≤ S.size := fun k => by
      have := Tp.join_take_len (Tp.lev S.data.toList) k
      rw [Tp.join_lev, str_size] at this
      exact this
    have hsz : ∀ i (hi : i < (Tp.lev S.data.toList).length), (Tp.lev S.data.toList)[i].length ≤ S.size := fun i hi => by have := Tp.lev_size _ _ (List.getElem_mem hi); rw [str_size] at this; exact this
    have Hjl := Lib.hid hjl
    have Hat := Lib.hid hat
    have Hsz := Lib.hid hsz
    clear hjl hat o3 q3 hsz
    obtain ⟨xs, hxs⟩ : ∃ xs, Tp.lev S.data.toList = xs := ⟨_, rfl⟩
    rw [hxs] at Hat Hjl Hm Hsz hcap hll ⊢
    clear hxs
    unfold maxLen at hcm
    go_wp2
    go_loopw [7, 8, 9] (fun sm fi i wr => ∃ (k : Nat) (A : ByteArray), k ≤ xs.length ∧ sm = .bool (Tp.someTo F.data.toList xs k) ∧ fi = .string A ∧ A.data.toList = Tp.join (xs.take k) ∧ i = .int .i64 k ∧ Kept w3 wr) (fun _ _ i _ => xs.length - (intOf i).toNat)
    case atStart => exact ⟨0, ⟨#[]⟩, Nat.zero_le _, rfl, rfl, rfl, rfl, Kept.refl _⟩
    case round =>
      obtain ⟨k, A, hk, rfl, rfl, hA, rfl, kr⟩ := hrel
      have HA := Lib.hid hA
      clear hA
      have K4 := K3.trans kr
      by_cases hlt : k < xs.length
      · obtain ⟨p, cp, lp⟩ := Hat.out k hlt
        have cp2 : wr.cell? ⟨g, off + k, none⟩ = some (.string p) := by
          refine (Below.cell kr (p := ⟨g, off + k, none⟩) ?_).trans cp
          rcases Nat.lt_or_ge g w3.heap.size with h | h
          · exact h
          · simp [World.cell?, Array.getElem?_eq_none h] at cp
        have zp : p.size ≤ 150 := by have := Hsz.out k hlt; rw [← lp, str_size] at this; omega
        have zA0 : A.size ≤ 150 := by have := Hjl.out k; rw [← HA.out, str_size] at this; omega
        have zA : ∀ B : ByteArray, B.data.toList = Tp.join (xs.take (k + 1)) → B.size ≤ 150 := fun B hB => by
          have := Hjl.out (k + 1)
          rw [← hB, str_size] at this
          omega
        have HzA := Lib.hid zA
        have Hst : Hid (Tp.someTo F.data.toList xs (k + 1) = (Tp.someTo F.data.toList xs k || Tp.match_ F.data.toList (Tp.join (xs.take (k + 1))))) := rfl
        generalize hsm : Tp.someTo F.data.toList xs k = sm at Hst ⊢
        clear zA cp hsm
        by_cases h0 : k = 0
        · subst h0
          rw [Nat.add_zero] at cp2
          obtain ⟨A2, hA2, lA2⟩ : ∃ A2 : ByteArray, A ++ p = A2 ∧ A2.data.toList = Tp.join (xs.take (0 + 1)) := ⟨_, rfl, by rw [app_list, HA.out, lp]; exact (Tp.join_take_one hlt).symm⟩
          have zA2 := HzA.out A2 lA2
          have LA := Lib.hid lA2
          clear lA2 lp
          cases sm with
          | true =>
            go_wp2
            go_roundw
            case rel => exact ⟨0 + 1, A2, hlt, by rw [Hst.out]; rfl, rfl, LA.out, by go_num, kr⟩
            case measure => simp [intOf]; omega
          | false =>
            go_wp2_with fail
            refine (match_any F A2 _ (by omega) (by omega)).mono ?_
            rintro e w5 ⟨rfl, q5⟩
            have kr5 := kr.trans q5
            rw [LA.out]
            go_wp2
            go_roundw
            case rel => exact ⟨0 + 1, A2, hlt, by rw [Hst.out]; rfl, rfl, LA.out, by go_num, kr5⟩
            case measure => simp [intOf]; omega
        · have hpos : (0 : Int) < (k : Int) := by omega
          obtain ⟨A1, hA1, lA1⟩ : ∃ A1 : ByteArray, A ++ ⟨#[47]⟩ = A1 ∧ A1.data.toList = Tp.join (xs.take k) ++ [47] := ⟨_, rfl, by rw [app_list, HA.out]⟩
          have z1 : A1.size = A.size + 1 := by rw [← hA1, ByteArray.size_append]; rfl
          obtain ⟨A2, hA2, lA2⟩ : ∃ A2 : ByteArray, A1 ++ p = A2 ∧ A2.data.toList = Tp.join (xs.take (k + 1)) := ⟨_, rfl, by rw [app_list, lA1, lp]; exact (Tp.join_take_succ hlt (by omega)).symm⟩
          have zA2 := HzA.out A2 lA2
          have LA := Lib.hid lA2
          clear lA2 lp lA1
          cases sm with
          | true =>
            go_wp2
            go_roundw
            case rel => exact ⟨k + 1, A2, hlt, by rw [Hst.out]; rfl, rfl, LA.out, by go_num, kr⟩
            case measure => simp [intOf]; omega
          | false =>
            go_wp2_with fail
            refine (match_any F A2 _ (by omega) (by omega)).mono ?_
            rintro e w5 ⟨rfl, q5⟩
            have kr5 := kr.trans q5
            rw [LA.out]
            go_wp2
            go_roundw
            case rel => exact ⟨k + 1, A2, hlt, by rw [Hst.out]; rfl, rfl, LA.out, by go_num, kr5⟩
            case measure => simp [intOf]; omega
      · have hke : k = xs.length := by omega
        subst hke
        generalize Tp.someTo F.data.toList xs xs.length = sm at Hm ⊢
        cases sm with
        | false =>
          go_wp2_with fail
          refine (match_from K4 G S (by omega) (by omega) _ Hm.out).mono ?_
          rintro e w5 ⟨rfl, K5⟩
          rw [Bool.false_and]
          go_wp2_with fail
          refine (covers_from K5 G F (by omega) (by omega) _ Hc1.out).mono ?_
          rintro e w6 ⟨rfl, K6⟩
          go_wp2_with fail
          refine (covers_from K6 G G (by omega) (by omega) _ Hc2.out).mono ?_
          rintro e w7 ⟨rfl, K7⟩
          go_wp2_with fail
          refine (fix_from K7).mono ?_
          rintro e w8 ⟨rfl, Kf⟩
          go_wp2_with fail
          go_ret
          exact ⟨rfl, Kf⟩
        | true =>
          generalize hr : Tp.right S.data.toList = r at Hm
          have Hr := Lib.hid hr
          have hrr : (r == r) = true := by cases r <;> rfl
          clear hr
          go_wp2_with fail
          refine (match_from K4 G S (by omega) (by omega) _ Hm.out).mono ?_
          rintro e w5 ⟨rfl, K5⟩
          rw [Bool.true_and]
          go_wp2_with fail
          refine (right_from K5 S (by omega) _ Hr.out).mono ?_
          rintro e w55 ⟨rfl, K5b⟩
          go_wp2_with fail
          refine (covers_from K5b G F (by omega) (by omega) _ Hc1.out).mono ?_
          rintro e w6 ⟨rfl, K6⟩
          go_wp2_with fail
          refine (covers_from K6 G G (by omega) (by omega) _ Hc2.out).mono ?_
          rintro e w7 ⟨rfl, K7⟩
          go_wp2_with fail
          refine (fix_from K7).mono ?_
          rintro e w8 ⟨rfl, Kf⟩
          go_wp2_with fail
          go_ret
          exact ⟨rfl, Kf⟩
end Go.Proofs.Ytlgjnngacganmaa
