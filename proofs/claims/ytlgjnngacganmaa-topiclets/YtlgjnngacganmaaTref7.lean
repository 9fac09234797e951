/-
  The document's own having a topic in common: the walk of rivuletref03.Meet.
-/
import Derived.Test.YtlgjnngacganmaaTref6
namespace Go.Proofs.Ytlgjnngacganmaa
open Go.ChangeShapes Go.WideShapes Go.ChangeAt Go.RowKit

namespace Tp
/-- there is a topic of n levels that both let by -/
def both (a b : L) (n : Nat) : Prop := (rowv (lev a) n).2 = true ∧ (rowv (lev b) n).2 = true ∧ mtw (rowv (lev a) n).1 (rowv (lev b) n).1 = true
theorem meet_both {a b : L} (ha : filter a = true) (hb : filter b = true) {n : Nat} (h1 : 1 ≤ n) (h2 : n ≤ 8) (h : both a b n) : meet a b = true := (meet_rowv ha hb).2 ⟨n, h1, h2, h.1, h.2.1, h.2.2⟩
theorem meet_none {a b : L} (ha : filter a = true) (hb : filter b = true) (h : ∀ j, 1 ≤ j → j < 9 → ¬ both a b j) : meet a b = false := by
  rw [← Bool.not_eq_true, meet_rowv ha hb]
  rintro ⟨n, h1, h2, h3, h4, h5⟩
  exact h n h1 (by omega) ⟨h3, h4, h5⟩
end Tp

set_option maxHeartbeats 4000000 in
set_option maxRecDepth 100000 in
theorem rmeet_any (s t : ByteArray) (w : World) (hs : s.size ≤ 900) (ht : t.size ≤ 900) :
    Calls Try.prog 26 #[.string s, .string t] w fun e w' => e = .returned (.bool (Tp.meet s.data.toList t.data.toList)) ∧ Kept w w' := by
  have Hd : Hid (Tp.meet s.data.toList t.data.toList = (Tp.filter s.data.toList && Tp.filter t.data.toList && Tp.mee (Tp.lev s.data.toList) (Tp.lev t.data.toList))) := rfl
  go_enter Try.func26, Try.ntmps26
  go_wp2_with fail
  go_loopw [5] (fun n wr => ∃ N : Nat, 1 ≤ N ∧ N ≤ 9 ∧ n = .int .i64 N ∧ (∀ j, 1 ≤ j → j < N → ¬ Tp.both s.data.toList t.data.toList j) ∧ (Tp.filter s.data.toList = true ∧ Tp.filter t.data.toList = true ∨ N = 1) ∧ Kept w wr) (fun n _ => 9 - (intOf n).toNat)
  case atStart => exact ⟨1, by omega, by omega, rfl, fun j h1 h2 => by omega, .inr rfl, Kept.refl w⟩
  case round =>
    obtain ⟨N, hN1, hN9, rfl, hgood, hfil, kr⟩ := hrel
    have HG := Lib.hid hgood
    have HF := Lib.hid hfil
    clear hgood hfil
    by_cases hN : N ≤ 8
    · go_wp2_with fail
      refine (rfilter_any s _ (by omega)).mono ?_
      rintro e w1 ⟨rfl, k1⟩
      have k01 := kr.trans k1
      cases hf : Tp.filter s.data.toList with
      | false =>
        rw [hf] at Hd
        clear hf HF HG
        go_wp2
        go_ret
        exact ⟨by rw [Hd.out]; rfl, k01⟩
      | true =>
        rw [hf] at Hd
        have Hf := Lib.hid hf
        clear hf
        go_wp2_with fail
        refine (rfilter_any t _ (by omega)).mono ?_
        rintro e w2 ⟨rfl, k2⟩
        have k02 := k01.trans k2
        cases hg : Tp.filter t.data.toList with
        | false =>
          rw [hg] at Hd
          clear hg HF HG
          go_wp2
          go_ret
          exact ⟨by rw [Hd.out]; rfl, k02⟩
        | true =>
          have Hg := Lib.hid hg
          clear hg Hd HF k1 k2 k01
          go_wp2_with fail
          refine (rrow_any s N _ (by omega) (by omega)).mono ?_
          rintro e w3 ⟨v1, rfl, o1, k3⟩
          obtain ⟨a1, c1, rfl, hc1, hm1, hop1⟩ := strs_open o1.strs
          have hr1 := Tp.rowv_len (xs := Tp.lev s.data.toList) (n := N)
          have HB : Hid (Tp.both s.data.toList t.data.toList N ↔ ((Tp.rowv (Tp.lev s.data.toList) N).2 = true ∧ (Tp.rowv (Tp.lev t.data.toList) N).2 = true ∧ Tp.mtw (Tp.rowv (Tp.lev s.data.toList) N).1 (Tp.rowv (Tp.lev t.data.toList) N).1 = true)) := Iff.rfl
          obtain ⟨⟨xs, b⟩, hxb⟩ : ∃ xb, Tp.rowv (Tp.lev s.data.toList) N = xb := ⟨_, rfl⟩
          rw [hxb] at hr1 hc1 hop1 HB ⊢
          simp only at hr1 hc1 hop1 HB ⊢
          have Hr1 := Lib.hid hr1
          have Hop1 := Lib.hid hop1
          clear hr1 hop1 o1 hxb
          unfold maxLen at hm1
          go_wp2_with fail
          refine (rrow_any t N _ (by omega) (by omega)).mono ?_
          rintro e w4 ⟨v2, rfl, o2, k4⟩
          obtain ⟨a2, c2, rfl, hc2, hm2, hop2⟩ := strs_open o2.strs
          have hr2 := Tp.rowv_len (xs := Tp.lev t.data.toList) (n := N)
          obtain ⟨⟨ys, S⟩, hyS⟩ : ∃ yS, Tp.rowv (Tp.lev t.data.toList) N = yS := ⟨_, rfl⟩
          rw [hyS] at hr2 hc2 hop2 HB ⊢
          simp only at hr2 hc2 hop2 HB ⊢
          have Hr2 := Lib.hid hr2
          have Hop2 := Lib.hid hop2
          have k14 := (k02.trans k3).trans k4
          have Hk4 := Lib.hid k4
          clear hr2 hop2 o2 hyS k3 k4
          unfold maxLen at hm2
          have Hout : Hid (¬ Tp.both s.data.toList t.data.toList N → ∀ j, 1 ≤ j → j < N + 1 → ¬ Tp.both s.data.toList t.data.toList j) := by
            intro h j h1 h2
            by_cases e : j = N
            · subst e; exact h
            · exact HG.out j h1 (by omega)
          have Hyes : Hid (Tp.both s.data.toList t.data.toList N → Tp.meet s.data.toList t.data.toList = true) := fun h => Tp.meet_both Hf.out Hg.out hN1 hN h
          have hlt0 : (0 : Int) < (N : Int) := by omega
          cases S with
          | false =>
            have Hno : Hid (¬ Tp.both s.data.toList t.data.toList N) := by show ¬ Tp.both _ _ _; rw [HB.out]; rintro ⟨_, h, _⟩; cases h
            clear Hop1 Hop2 Hr1 Hr2 HB
            cases b with
            | false =>
              go_wp2
              go_loopw [7, 10] (fun is i wq => is = .bool false ∧ i = .int .i64 0 ∧ wq = w4) (fun _ _ _ => 0)
              case atStart => exact ⟨rfl, rfl, rfl⟩
              case round =>
                obtain ⟨rfl, rfl, rfl⟩ := hrel
                go_wp2
                go_roundw
                case rel => exact ⟨N + 1, by omega, by omega, by go_num, Hout.out Hno.out, .inl ⟨Hf.out, Hg.out⟩, k14⟩
                case measure => simp [intOf]; omega
            | true =>
              go_wp2
              go_loopw [7, 10] (fun is i wq => is = .bool true ∧ i = .int .i64 0 ∧ wq = w4) (fun _ _ _ => 0)
              case atStart => exact ⟨rfl, rfl, rfl⟩
              case round =>
                obtain ⟨rfl, rfl, rfl⟩ := hrel
                go_wp2
                go_roundw
                case rel => exact ⟨N + 1, by omega, by omega, by go_num, Hout.out Hno.out, .inl ⟨Hf.out, Hg.out⟩, k14⟩
                case measure => simp [intOf]; omega
          | true =>
            have Hyl := Lib.hid (Hr2.out rfl)
            have HB2 : Hid (Tp.both s.data.toList t.data.toList N ↔ (b && Tp.mtw xs ys) = true) := by
              show _ ↔ _
              rw [HB.out, Bool.and_eq_true]; exact ⟨fun h => ⟨h.1, h.2.2⟩, fun h => ⟨h.1, rfl, h.2⟩⟩
            clear HB Hr2
            go_wp2
            go_loopw [7, 10] (fun is i wq => ∃ (k : Nat) (c : Bool), k ≤ N ∧ is = .bool c ∧ i = .int .i64 k ∧ (c = true → xs.length = N) ∧ (b && Tp.mtw xs ys) = (c && Tp.mtw (xs.drop k) (ys.drop k)) ∧ ∃ m, wq = w4.drewN m) (fun _ i _ => N - (intOf i).toNat)
            case atStart => exact ⟨0, b, Nat.zero_le _, rfl, rfl, Hr1.out, rfl, 0, rfl⟩
            case round =>
              obtain ⟨k, c, hk, rfl, rfl, hcl, hcm, m, rfl⟩ := hrel
              have HC := Lib.hid hcm
              clear hcm
              have kq : Kept w (w4.drewN m) := k14.trans (kept_drewN (Kept.refl w4) _)
              cases c with
              | false =>
                have Hno : Hid (¬ Tp.both s.data.toList t.data.toList N) := by
                  show ¬ Tp.both _ _ _
                  rw [HB2.out, HC.out]
                  intro h
                  cases h
                clear hcl
                by_cases hlt : k < N
                · go_wp2
                  go_roundw
                  case rel => exact ⟨N + 1, by omega, by omega, by go_num, Hout.out Hno.out, .inl ⟨Hf.out, Hg.out⟩, kq⟩
                  case measure => simp [intOf]; omega
                · go_wp2
                  go_roundw
                  case rel => exact ⟨N + 1, by omega, by omega, by go_num, Hout.out Hno.out, .inl ⟨Hf.out, Hg.out⟩, kq⟩
                  case measure => simp [intOf]; omega
              | true =>
                replace hcl := hcl rfl
                by_cases hlt : k < N
                · have hlt1 : k < xs.length := by omega
                  have hlt2 : k < ys.length := by rw [Hyl.out]; exact hlt
                  obtain ⟨g1, off1, rfl, hat1⟩ := Hop1.out (by intro h; rw [h] at hlt1; exact absurd hlt1 (Nat.not_lt_zero _))
                  obtain ⟨g2, off2, rfl, hat2⟩ := Hop2.out (by intro h; rw [h] at hlt2; exact absurd hlt2 (Nat.not_lt_zero _))
                  obtain ⟨p, cp, lp⟩ := cells_kept Hk4.out hat1 k hlt1
                  obtain ⟨q, cq, lq⟩ := hat2 k hlt2
                  have Hstep := Lib.hid (Tp.mtw_drop hlt1 hlt2)
                  have Hp : Hid ((xs[k] == Tp.plus) = (p.toList == [43])) := by show _ = _; rw [toList_eq, lp]
                  have Hr : Hid ((ys[k] == Tp.plus) = (q.toList == [43])) := by show _ = _; rw [toList_eq, lq]
                  have Hq : Hid ((xs[k] == ys[k]) = (p.toList == q.toList)) := by show _ = _; rw [toList_eq, toList_eq, lp, lq]
                  have Hcl := Lib.hid hcl
                  clear hat2 hat1 lp lq hcl
                  by_cases e1 : (p.toList == [43]) = true
                  · rw [e1] at Hp
                    go_wp2_with fail
                    go_quiet (fail)
                    go_wp2
                    go_roundw
                    case rel => exact ⟨k + 1, true, hlt, rfl, by go_num, fun _ => Hcl.out, by rw [HC.out, Hstep.out, Hp.out]; simp, _, rfl⟩
                    case measure => simp [intOf]; omega
                  · rw [Bool.not_eq_true] at e1
                    rw [e1] at Hp
                    by_cases e3 : (q.toList == [43]) = true
                    · rw [e3] at Hr
                      go_wp2_with fail
                      go_quiet (fail)
                      go_wp2
                      go_roundw
                      case rel => exact ⟨k + 1, true, hlt, rfl, by go_num, fun _ => Hcl.out, by rw [HC.out, Hstep.out, Hp.out, Hr.out]; simp, _, rfl⟩
                      case measure => simp [intOf]; omega
                    · rw [Bool.not_eq_true] at e3
                      rw [e3] at Hr
                      by_cases e2 : (p.toList == q.toList) = true
                      · rw [e2] at Hq
                        go_wp2_with fail
                        go_quiet (fail)
                        go_wp2
                        go_roundw
                        case rel => exact ⟨k + 1, true, hlt, rfl, by go_num, fun _ => Hcl.out, by rw [HC.out, Hstep.out, Hp.out, Hr.out, Hq.out]; simp, _, rfl⟩
                        case measure => simp [intOf]; omega
                      · rw [Bool.not_eq_true] at e2
                        rw [e2] at Hq
                        go_wp2_with fail
                        go_quiet (fail)
                        go_wp2
                        go_roundw
                        case rel => exact ⟨k + 1, false, hlt, rfl, by go_num, fun h => (by cases h), by rw [HC.out, Hstep.out, Hp.out, Hr.out, Hq.out]; simp, _, rfl⟩
                        case measure => simp [intOf]; omega
                · have Hb : Hid (Tp.both s.data.toList t.data.toList N) := by
                    show Tp.both _ _ _
                    rw [HB2.out, HC.out, List.drop_of_length_le (by omega), List.drop_of_length_le (by rw [Hyl.out]; omega)]
                    rfl
                  clear hcl
                  go_wp2
                  go_ret
                  exact ⟨by rw [Hyes.out Hb.out]; rfl, kq⟩
    · have Hc : Hid (Tp.meet s.data.toList t.data.toList = false) := by
        show _ = _
        rcases HF.out with ⟨h1, h2⟩ | h
        · exact Tp.meet_none h1 h2 fun j h1 h2 => HG.out j h1 (by omega)
        · omega
      go_wp2
      go_ret
      exact ⟨by rw [Hc.out]; rfl, kr⟩
end Go.Proofs.Ytlgjnngacganmaa
