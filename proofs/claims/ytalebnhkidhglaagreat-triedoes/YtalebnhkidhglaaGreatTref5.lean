/-
  The document's own letting by: the walk of rivuletref03.Match.
-/
import Derived.Test.YtalebnhkidhglaaGreatTmath3
namespace Go.Proofs.YtalebnhkidhglaaGreat
open Go.ChangeShapes Go.WideShapes Go.ChangeAt Go.RowKit

/-- texts in memory, opened where there are any -/
theorem strs_open {w : World} {v : Value} {xs : List (List UInt8)} (h : Strs w v xs) :
    ∃ a cap, v = .slice a xs.length cap ∧ xs.length ≤ cap ∧ cap ≤ maxLen ∧ (xs ≠ [] → ∃ g off, a = some ⟨g, off, none⟩ ∧ ∀ i (hi : i < xs.length), ∃ p : ByteArray, w.cell? ⟨g, off + i, none⟩ = some (.string p) ∧ p.data.toList = xs[i]) := by
  obtain ⟨a, cap, rfl, h1, h2, h3⟩ := h
  refine ⟨a, cap, rfl, h1, h2, fun hne => ?_⟩
  rcases h3 with h3 | ⟨g, off, rfl, hg, hc⟩
  · exact absurd h3 hne
  · refine ⟨g, off, rfl, fun i hi => ?_⟩
    obtain ⟨p, c1, c2⟩ := strs_at hc i hi
    exact ⟨p, c1, by rw [← toList_eq]; exact c2⟩

set_option maxHeartbeats 2000000 in
set_option maxRecDepth 100000 in
theorem rmatch_any (s t : ByteArray) (w : World) (hs : s.size ≤ 900) (ht : t.size ≤ 900) :
    Calls Tryz.prog 38 #[.string s, .string t] w fun e w' => e = .returned (.bool (Tp.match_ s.data.toList t.data.toList)) ∧ Kept w w' := by
  go_enter Tryz.func38, Tryz.ntmps38
  go_wp2_with fail
  refine (rfilter_any s _ (by omega)).mono ?_
  rintro e w1 ⟨rfl, k1⟩
  cases hf : Tp.filter s.data.toList with
  | false =>
    have Hm := Lib.hid (Tp.match_filter (t := t.data.toList) hf)
    clear hf
    go_wp2_with fail
    go_ret
    exact ⟨by rw [Hm.out]; rfl, k1⟩
  | true =>
    have Hf := Lib.hid hf
    clear hf
    go_wp2_with fail
    refine (rright_any t _ (by omega)).mono ?_
    rintro e w2 ⟨rfl, k2⟩
    have k12 := k1.trans k2
    cases hr : Tp.right t.data.toList with
    | false =>
      have Hm := Lib.hid (Tp.match_right (f := s.data.toList) hr)
      clear hr
      go_wp2_with fail
      go_ret
      exact ⟨by rw [Hm.out]; rfl, k12⟩
    | true =>
      have Hm := Lib.hid (Tp.match_rowv Hf.out hr)
      clear hr
      go_wp2_with fail
      refine (rlevels_any t _ (by omega)).mono ?_
      rintro e w3 ⟨v1, rfl, o1, k3⟩
      obtain ⟨a1, c1, rfl, hc1, hm1, hop1⟩ := strs_open o1.strs
      have hll := Tp.lev_length t.data.toList
      have hlp := Tp.lev_pos t.data.toList
      rw [str_size] at hll
      obtain ⟨g1, off1, rfl, hat1⟩ := hop1 (Tp.lev_ne _)
      have H1 := Lib.hid hat1
      obtain ⟨ys, hys⟩ : ∃ ys, Tp.lev t.data.toList = ys := ⟨_, rfl⟩
      rw [hys] at Hm H1 hc1 hll hlp ⊢
      have Ho1 := Lib.hid o1
      rw [hys] at Ho1
      clear hys hat1 o1 hop1
      unfold maxLen at hm1
      go_wp2_with fail
      refine (rrow_any s ys.length _ (by omega) (by omega)).mono ?_
      rintro e w4 ⟨v2, rfl, o2, k4⟩
      obtain ⟨a2, c2, rfl, hc2, hm2, hop2⟩ := strs_open o2.strs
      have hrl := Tp.rowv_len (xs := Tp.lev s.data.toList) (n := ys.length)
      have k14 := (k12.trans k3).trans k4
      have H1' : Hid (∀ i (hi : i < ys.length), ∃ p : ByteArray, w4.cell? ⟨g1, off1 + i, none⟩ = some (.string p) ∧ p.data.toList = ys[i]) := by
        intro i hi
        obtain ⟨p, cp, lp⟩ := H1.out i hi
        refine ⟨p, (Below.cell k4 (p := ⟨g1, off1 + i, none⟩) ?_).trans cp, lp⟩
        rcases Nat.lt_or_ge g1 w3.heap.size with h | h
        · exact h
        · simp [World.cell?, Array.getElem?_eq_none h] at cp
      obtain ⟨⟨xs, b⟩, hxb⟩ : ∃ xb, Tp.rowv (Tp.lev s.data.toList) ys.length = xb := ⟨_, rfl⟩
      rw [hxb] at Hm hrl hc2 hop2 ⊢
      simp only at Hm hrl hc2 hop2 ⊢
      have Hop2 := Lib.hid hop2
      have Hrl := Lib.hid hrl
      clear hxb hop2 hrl o2 H1
      unfold maxLen at hm2
      go_wp2
      go_loopw [7, 8] (fun is i wr => ∃ (k : Nat) (c : Bool), k ≤ ys.length ∧ is = .bool c ∧ i = .int .i64 k ∧ (c = true → xs.length = ys.length) ∧ Tp.match_ s.data.toList t.data.toList = (c && Tp.ptw (xs.drop k) (ys.drop k)) ∧ ∃ m, wr = w4.drewN m) (fun _ i _ => ys.length - (intOf i).toNat)
      case atStart => exact ⟨0, b, Nat.zero_le _, rfl, rfl, Hrl.out, Hm.out, 0, rfl⟩
      case round =>
        obtain ⟨k, c, hk, rfl, rfl, hcl, hcm, m, rfl⟩ := hrel
        have HC := Lib.hid hcm
        clear hcm
        cases c with
        | false =>
          clear hcl
          by_cases hlt : k < ys.length
          · go_wp2
            go_ret
            exact ⟨by rw [HC.out]; rfl, k14.trans (kept_drewN (Kept.refl w4) _)⟩
          · go_wp2
            go_ret
            exact ⟨by rw [HC.out]; rfl, k14.trans (kept_drewN (Kept.refl w4) _)⟩
        | true =>
          replace hcl := hcl rfl
          by_cases hlt : k < ys.length
          · have hlt2 : k < xs.length := by omega
            obtain ⟨g2, off2, rfl, hat2⟩ := Hop2.out (by intro h; rw [h] at hlt2; exact absurd hlt2 (Nat.not_lt_zero _))
            obtain ⟨p, cp, lp⟩ := hat2 k hlt2
            obtain ⟨q, cq, lq⟩ := H1'.out k hlt
            have Hstep := Lib.hid (Tp.ptw_drop hlt2 hlt)
            have Hp : Hid ((xs[k] == Tp.plus) = (p.toList == [43])) := by show _ = _; rw [toList_eq, lp]
            have Hq : Hid ((xs[k] == ys[k]) = (p.toList == q.toList)) := by show _ = _; rw [toList_eq, toList_eq, lp, lq]
            clear hat2 lp lq
            by_cases e1 : (p.toList == [43]) = true
            · rw [e1] at Hp
              go_wp2_with fail
              go_quiet (fail)
              go_wp2
              go_roundw
              case rel => exact ⟨k + 1, true, hlt, rfl, by go_num, fun _ => hcl, by rw [HC.out, Hstep.out, Hp.out]; simp, _, rfl⟩
              case measure => simp [intOf]; omega
            · rw [Bool.not_eq_true] at e1
              rw [e1] at Hp
              by_cases e2 : (p.toList == q.toList) = true
              · rw [e2] at Hq
                go_wp2_with fail
                go_quiet (fail)
                go_wp2
                go_roundw
                case rel => exact ⟨k + 1, true, hlt, rfl, by go_num, fun _ => hcl, by rw [HC.out, Hstep.out, Hp.out, Hq.out]; simp, _, rfl⟩
                case measure => simp [intOf]; omega
              · rw [Bool.not_eq_true] at e2
                rw [e2] at Hq
                go_wp2_with fail
                go_quiet (fail)
                go_wp2
                go_roundw
                case rel => exact ⟨k + 1, false, hlt, rfl, by go_num, fun h => (by cases h), by rw [HC.out, Hstep.out, Hp.out, Hq.out]; simp, _, rfl⟩
                case measure => simp [intOf]; omega
          · have Hn : Hid (Tp.ptw (xs.drop k) (ys.drop k) = true) := by
              show _ = _
              rw [List.drop_of_length_le (by omega), List.drop_of_length_le (by omega)]; rfl
            go_wp2
            go_ret
            exact ⟨by rw [HC.out, Hn.out]; rfl, k14.trans (kept_drewN (Kept.refl w4) _)⟩
end Go.Proofs.YtalebnhkidhglaaGreat
