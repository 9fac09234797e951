/-
  The walk of rivuletlaw03.fresh.
-/
import Derived.Test.YtlgjnngacganmaaTmath5
namespace Go.Proofs.Ytlgjnngacganmaa
open Go.ChangeShapes Go.WideShapes Go.ChangeAt Go.RowKit

theorem map_take_zero {xs : List Tp.L} (h : 0 < xs.length) : Tp.join ((xs.map Tp.fr).take 1) = Tp.fr xs[0] := by
  rw [Tp.join_take_one (by rw [List.length_map]; exact h), List.getElem_map]
theorem map_take_succ {xs : List Tp.L} {k : Nat} (h : k < xs.length) (hk : 1 ≤ k) : Tp.join ((xs.map Tp.fr).take (k + 1)) = (Tp.join ((xs.map Tp.fr).take k) ++ [47]) ++ Tp.fr xs[k] := by
  rw [Tp.join_take_succ (by rw [List.length_map]; exact h) hk, List.getElem_map]

set_option maxHeartbeats 2000000 in
set_option maxRecDepth 100000 in
theorem fresh_any (s : ByteArray) (n : Nat) (w : World) (hs : s.size ≤ 200) (hn : n ≤ 8) :
    Calls Try.prog 27 #[.string s, .int .i64 n] w fun e w' => ∃ t : ByteArray, e = .returned (.tuple #[.string t, .bool (Tp.rowv (Tp.lev s.data.toList) n).2]) ∧ ((Tp.rowv (Tp.lev s.data.toList) n).2 = true → t.data.toList = Tp.freshL s.data.toList n) ∧ t.size ≤ 5000 ∧ Kept w w' := by
  go_enter Try.func27, Try.ntmps27
  go_wp2_with fail
  refine (rrow_any s n _ (by omega) (by omega)).mono ?_
  rintro e w1 ⟨v1, rfl, o1, k1⟩
  obtain ⟨a1, c1, rfl, hc1, hm1, hop1⟩ := strs_open o1.strs
  have hr1 := Tp.rowv_len (xs := Tp.lev s.data.toList) (n := n)
  have hsz : ∀ i (hi : i < (Tp.rowv (Tp.lev s.data.toList) n).1.length), ((Tp.rowv (Tp.lev s.data.toList) n).1)[i].length ≤ 200 := fun i hi => by
    rcases Tp.rowv_mem (List.getElem_mem hi) with h | h
    · have := Tp.lev_size _ _ h; rw [str_size] at this; omega
    · rw [h]; decide
  have Hfl : Hid (Tp.freshL s.data.toList n = Tp.join (((Tp.rowv (Tp.lev s.data.toList) n).1.map Tp.fr).take (Tp.rowv (Tp.lev s.data.toList) n).1.length)) := by
    show _ = _
    rw [List.take_of_length_le (by rw [List.length_map]; exact Nat.le_refl _)]; rfl
  obtain ⟨⟨xs, b⟩, hxb⟩ : ∃ xb, Tp.rowv (Tp.lev s.data.toList) n = xb := ⟨_, rfl⟩
  have HX := Lib.hid hxb
  rw [hxb] at hr1 hc1 hop1 hsz Hfl ⊢
  simp only at hr1 hc1 hop1 hsz Hfl ⊢
  have Hr1 := Lib.hid hr1
  have Hop1 := Lib.hid hop1
  have Hsz := Lib.hid hsz
  clear hr1 hop1 o1 hxb hsz
  unfold maxLen at hm1
  cases b with
  | false =>
    go_wp2
    go_loopw [8, 9] (fun o i wr => o = .string ⟨#[]⟩ ∧ i = .int .i64 0 ∧ wr = w1) (fun _ _ _ => 0)
    case atStart => exact ⟨rfl, rfl, rfl⟩
    case round =>
      obtain ⟨rfl, rfl, rfl⟩ := hrel
      by_cases hx : 0 < xs.length
      · have hx2 : (0 : Int) < (xs.length : Int) := by omega
        go_wp2
        go_ret2
        exact ⟨⟨#[]⟩, by rw [HX.out]; rfl, (by rw [HX.out]; intro h; cases h), by decide, k1⟩
      · have hx2 : ¬ (0 : Int) < (xs.length : Int) := by omega
        go_wp2
        go_ret2
        exact ⟨⟨#[]⟩, by rw [HX.out]; rfl, (by rw [HX.out]; intro h; cases h), by decide, k1⟩
  | true =>
    have hxl := Hr1.out rfl
    have Hxl := Lib.hid hxl
    have hx9 : xs.length ≤ 8 := by omega
    clear hxl Hr1
    go_wp2
    go_loop [8, 9] (fun o i => ∃ (k : Nat) (A : ByteArray), k ≤ xs.length ∧ o = .string A ∧ A.data.toList = Tp.join ((xs.map Tp.fr).take k) ∧ A.size ≤ k * 300 ∧ i = .int .i64 k) (fun _ i => xs.length - (intOf i).toNat)
    case atStart => exact ⟨0, ⟨#[]⟩, Nat.zero_le _, rfl, rfl, Nat.zero_le _, rfl⟩
    case round =>
      obtain ⟨k, A, hk, rfl, hA, zA, rfl⟩ := hrel
      have HA := Lib.hid hA
      clear hA
      by_cases hlt : k < xs.length
      · obtain ⟨g1, off1, rfl, hat1⟩ := Hop1.out (by intro h; rw [h] at hlt; exact absurd hlt (Nat.not_lt_zero _))
        obtain ⟨p, cp, lp⟩ := hat1 k hlt
        have zp : p.size ≤ 200 := by have := Hsz.out k hlt; rw [← lp, str_size] at this; exact this
        have Hfr : Hid (((p.toList == [43]) = false → Tp.fr xs[k] = p.data.toList) ∧ ((p.toList == [43]) = true → Tp.fr xs[k] = Tp.zz)) := by
          refine ⟨fun h => ?_, fun h => ?_⟩
          · rw [toList_eq, lp] at h
            rw [lp, Tp.fr, if_neg (beq_eq_false_iff_ne.1 h)]
          · rw [toList_eq, lp] at h
            rw [Tp.fr, if_pos (eq_of_beq h)]
        clear hat1 lp
        by_cases h0 : k = 0
        · subst h0
          rw [Nat.add_zero] at cp
          have Hnext := Lib.hid (map_take_zero hlt)
          have zA0 : A.size = 0 := by omega
          by_cases e1 : (p.toList == [43]) = true
          · obtain ⟨A2, hA2, lA2⟩ : ∃ A2 : ByteArray, A ++ ⟨#[122, 122, 95, 57, 45, 122, 122, 95, 57, 45, 122, 122]⟩ = A2 ∧ A2.data.toList = Tp.join ((xs.map Tp.fr).take (0 + 1)) := ⟨_, rfl, by
              rw [app_list, HA.out, Hnext.out, (Hfr.out).2 e1] <;> rfl⟩
            have z2 : A2.size = A.size + 12 := by rw [← hA2, ByteArray.size_append]; rfl
            have LA := Lib.hid lA2
            clear lA2 Hnext Hfr
            go_wp2
            go_roundw
            case rel => exact ⟨0 + 1, A2, hlt, rfl, LA.out, by omega, by go_num⟩
            case measure => simp [intOf]; omega
          · rw [Bool.not_eq_true] at e1
            obtain ⟨A2, hA2, lA2⟩ : ∃ A2 : ByteArray, A ++ p = A2 ∧ A2.data.toList = Tp.join ((xs.map Tp.fr).take (0 + 1)) := ⟨_, rfl, by
              rw [app_list, HA.out, Hnext.out, (Hfr.out).1 e1] <;> rfl⟩
            have z2 : A2.size = A.size + p.size := by rw [← hA2, ByteArray.size_append]
            have LA := Lib.hid lA2
            clear lA2 Hnext Hfr
            go_wp2
            go_roundw
            case rel => exact ⟨0 + 1, A2, hlt, rfl, LA.out, by omega, by go_num⟩
            case measure => simp [intOf]; omega
        · have hpos : (0 : Int) < (k : Int) := by omega
          have Hnext := Lib.hid (map_take_succ hlt (by omega))
          obtain ⟨A1, hA1, lA1⟩ : ∃ A1 : ByteArray, A ++ ⟨#[47]⟩ = A1 ∧ A1.data.toList = Tp.join ((xs.map Tp.fr).take k) ++ [47] := ⟨_, rfl, by rw [app_list, HA.out]⟩
          have z1 : A1.size = A.size + 1 := by rw [← hA1, ByteArray.size_append]; rfl
          by_cases e1 : (p.toList == [43]) = true
          · obtain ⟨A2, hA2, lA2⟩ : ∃ A2 : ByteArray, A1 ++ ⟨#[122, 122, 95, 57, 45, 122, 122, 95, 57, 45, 122, 122]⟩ = A2 ∧ A2.data.toList = Tp.join ((xs.map Tp.fr).take (k + 1)) := ⟨_, rfl, by
              rw [app_list, lA1, Hnext.out, (Hfr.out).2 e1] <;> rfl⟩
            have z2 : A2.size = A1.size + 12 := by rw [← hA2, ByteArray.size_append]; rfl
            have LA := Lib.hid lA2
            clear lA2 Hnext Hfr lA1
            go_wp2
            go_roundw
            case rel => exact ⟨k + 1, A2, hlt, rfl, LA.out, by omega, by go_num⟩
            case measure => simp [intOf]; omega
          · rw [Bool.not_eq_true] at e1
            obtain ⟨A2, hA2, lA2⟩ : ∃ A2 : ByteArray, A1 ++ p = A2 ∧ A2.data.toList = Tp.join ((xs.map Tp.fr).take (k + 1)) := ⟨_, rfl, by
              rw [app_list, lA1, Hnext.out, (Hfr.out).1 e1] <;> rfl⟩
            have z2 : A2.size = A1.size + p.size := by rw [← hA2, ByteArray.size_append]
            have LA := Lib.hid lA2
            clear lA2 Hnext Hfr lA1
            go_wp2
            go_roundw
            case rel => exact ⟨k + 1, A2, hlt, rfl, LA.out, by omega, by go_num⟩
            case measure => simp [intOf]; omega
      · have hke : k = xs.length := by omega
        subst hke
        go_wp2
        go_ret2
        exact ⟨A, by rw [HX.out]; rfl, fun _ => by rw [Hfl.out, HA.out], by omega, k1⟩
end Go.Proofs.Ytlgjnngacganmaa
