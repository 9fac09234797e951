/-
  The document's own covering: the walk of rivuletref03.Covers.
-/
import Derived.Test.YtlpkeimcklhdbaaTref5
namespace Go.Proofs.Ytlpkeimcklhdbaa
open Go.ChangeShapes Go.WideShapes Go.ChangeAt Go.RowKit

namespace Tp
/-- topics of n levels: what b lets by a lets by -/
def good (a b : L) (n : Nat) : Prop := (rowv (lev b) n).2 = true → ((rowv (lev a) n).2 && ptw (rowv (lev a) n).1 (rowv (lev b) n).1) = true
theorem covers_good {a b : L} (ha : filter a = true) (hb : filter b = true) (h : ∀ j, 1 ≤ j → j < 9 → good a b j) : covers a b = true := by
  rw [covers_rowv ha hb]
  intro n h1 h2 hs
  have := h n h1 (by omega) hs
  rwa [Bool.and_eq_true] at this
theorem covers_bad {a b : L} (ha : filter a = true) (hb : filter b = true) {n : Nat} (h1 : 1 ≤ n) (h2 : n ≤ 8) (h : ¬ good a b n) : covers a b = false := by
  rw [← Bool.not_eq_true, covers_rowv ha hb]
  intro k
  exact h fun hs => by rw [Bool.and_eq_true]; exact k n h1 h2 hs
end Tp

theorem cells_kept {w w' : World} {g off : Nat} {xs : List (List UInt8)} (k : Kept w w') (h : ∀ i (hi : i < xs.length), ∃ p : ByteArray, w.cell? ⟨g, off + i, none⟩ = some (.string p) ∧ p.data.toList = xs[i]) :
    ∀ i (hi : i < xs.length), ∃ p : ByteArray, w'.cell? ⟨g, off + i, none⟩ = some (.string p) ∧ p.data.toList = xs[i] := by
  intro i hi
  obtain ⟨p, cp, lp⟩ := h i hi
  refine ⟨p, (Below.cell k (p := ⟨g, off + i, none⟩) ?_).trans cp, lp⟩
  rcases Nat.lt_or_ge g w.heap.size with h | h
  · exact h
  · simp [World.cell?, Array.getElem?_eq_none h] at cp

set_option maxHeartbeats 4000000 in
set_option maxRecDepth 100000 in
theorem rcovers_any (s t : ByteArray) (w : World) (hs : s.size ≤ 900) (ht : t.size ≤ 900) :
    Calls Try.prog 24 #[.string s, .string t] w fun e w' => e = .returned (.bool (Tp.covers s.data.toList t.data.toList)) ∧ Kept w w' := by
  go_enter Try.func24, Try.ntmps24
  have Hd : Hid (Tp.covers s.data.toList t.data.toList = (Tp.filter s.data.toList && Tp.filter t.data.toList && Tp.cov (Tp.lev s.data.toList) (Tp.wide t.data.toList))) := rfl
  go_wp2_with fail
  refine (rfilter_any s _ (by omega)).mono ?_
  rintro e w1 ⟨rfl, k1⟩
  cases hf : Tp.filter s.data.toList with
  | false =>
    rw [hf] at Hd
    clear hf
    go_wp2_with fail
    go_ret
    exact ⟨by rw [Hd.out]; rfl, k1⟩
  | true =>
    rw [hf] at Hd
    have Hf := Lib.hid hf
    clear hf
    go_wp2_with fail
    refine (rfilter_any t _ (by omega)).mono ?_
    rintro e w2 ⟨rfl, k2⟩
    have k12 := k1.trans k2
    cases hg : Tp.filter t.data.toList with
    | false =>
      rw [hg] at Hd
      clear hg
      go_wp2_with fail
      go_ret
      exact ⟨by rw [Hd.out]; rfl, k12⟩
    | true =>
      have Hg := Lib.hid hg
      clear hg Hd
      go_wp2_with fail
      go_loopw [5] (fun n wr => ∃ N : Nat, 1 ≤ N ∧ N ≤ 9 ∧ n = .int .i64 N ∧ (∀ j, 1 ≤ j → j < N → Tp.good s.data.toList t.data.toList j) ∧ Kept w wr) (fun n _ => 9 - (intOf n).toNat)
      case atStart => exact ⟨1, by omega, by omega, rfl, fun j h1 h2 => by omega, k12⟩
      case round =>
        obtain ⟨N, hN1, hN9, rfl, hgood, kr⟩ := hrel
        have HG := Lib.hid hgood
        clear hgood k1 k2 k12
        by_cases hN : N ≤ 8
        · go_wp2_with fail
          refine (rrow_any t N _ (by omega) (by omega)).mono ?_
          rintro e w3 ⟨v1, rfl, o1, k3⟩
          obtain ⟨a1, c1, rfl, hc1, hm1, hop1⟩ := strs_open o1.strs
          have hr1 := Tp.rowv_len (xs := Tp.lev t.data.toList) (n := N)
          have HB : Hid (Tp.good s.data.toList t.data.toList N ↔ ((Tp.rowv (Tp.lev t.data.toList) N).2 = true → ((Tp.rowv (Tp.lev s.data.toList) N).2 && Tp.ptw (Tp.rowv (Tp.lev s.data.toList) N).1 (Tp.rowv (Tp.lev t.data.toList) N).1) = true)) := Iff.rfl
          obtain ⟨⟨ys, S⟩, hyS⟩ : ∃ yS, Tp.rowv (Tp.lev t.data.toList) N = yS := ⟨_, rfl⟩
          rw [hyS] at hr1 hc1 hop1 HB ⊢
          simp only at hr1 hc1 hop1 HB ⊢
          have Hr1 := Lib.hid hr1
          have Hop1 := Lib.hid hop1
          clear hr1 hop1 o1 hyS
          unfold maxLen at hm1
          go_wp2_with fail
          refine (rrow_any s N _ (by omega) (by omega)).mono ?_
          rintro e w4 ⟨v2, rfl, o2, k4⟩
          obtain ⟨a2, c2, rfl, hc2, hm2, hop2⟩ := strs_open o2.strs
          have hr2 := Tp.rowv_len (xs := Tp.lev s.data.toList) (n := N)
          obtain ⟨⟨xs, b⟩, hxb⟩ : ∃ xb, Tp.rowv (Tp.lev s.data.toList) N = xb := ⟨_, rfl⟩
          rw [hxb] at hr2 hc2 hop2 HB ⊢
          simp only at hr2 hc2 hop2 HB ⊢
          have Hr2 := Lib.hid hr2
          have Hop2 := Lib.hid hop2
          have k14 := (kr.trans k3).trans k4
          have Hk4 := Lib.hid k4
          clear hr2 hop2 o2 hxb k3 k4
          unfold maxLen at hm2
          have Hout : Hid (Tp.good s.data.toList t.data.toList N → ∀ j, 1 ≤ j → j < N + 1 → Tp.good s.data.toList t.data.toList j) := by
            intro h j h1 h2
            by_cases e : j = N
            · subst e; exact h
            · exact HG.out j h1 (by omega)
          have Hbad : Hid (¬ Tp.good s.data.toList t.data.toList N → Tp.covers s.data.toList t.data.toList = false) := fun h => Tp.covers_bad Hf.out Hg.out hN1 hN h
          cases S with
          | false =>
            have Hgo : Hid (Tp.good s.data.toList t.data.toList N) := by show Tp.good _ _ _; rw [HB.out]; intro h; cases h
            clear Hop1 Hop2 Hr1 Hr2 HB
            go_wp2
            go_loopw [9, 10] (fun is i wq => is = .bool b ∧ i = .int .i64 0 ∧ wq = w4) (fun _ _ _ => 0)
            case atStart => exact ⟨rfl, rfl, rfl⟩
            case round =>
              obtain ⟨rfl, rfl, rfl⟩ := hrel
              have hlt : (0 : Int) < (N : Int) := by omega
              go_wp2
              go_roundw
              case rel => exact ⟨N + 1, by omega, by omega, by go_num, Hout.out Hgo.out, k14⟩
              case measure => simp [intOf]; omega
          | true =>
            have hyl := Hr1.out rfl
            have Hyl := Lib.hid hyl
            have HB2 : Hid (Tp.good s.data.toList t.data.toList N ↔ (b && Tp.ptw xs ys) = true) := by
              show _ ↔ _
              rw [HB.out]; exact ⟨fun h => h rfl, fun h _ => h⟩
            clear HB Hr1 hyl
            go_wp2
            go_loopw [9, 10] (fun is i wq => ∃ (k : Nat) (c : Bool), k ≤ N ∧ is = .bool c ∧ i = .int .i64 k ∧ (c = true → xs.length = N) ∧ (b && Tp.ptw xs ys) = (c && Tp.ptw (xs.drop k) (ys.drop k)) ∧ ∃ m, wq = w4.drewN m) (fun _ i _ => N - (intOf i).toNat)
            case atStart => exact ⟨0, b, Nat.zero_le _, rfl, rfl, Hr2.out, rfl, 0, rfl⟩
            case round =>
              obtain ⟨k, c, hk, rfl, rfl, hcl, hcm, m, rfl⟩ := hrel
              have HC := Lib.hid hcm
              clear hcm
              have kq : Kept w (w4.drewN m) := k14.trans (kept_drewN (Kept.refl w4) _)
              cases c with
              | false =>
                have Hnot : Hid (¬ Tp.good s.data.toList t.data.toList N) := by
                  show ¬ Tp.good _ _ _
                  rw [HB2.out, HC.out]
                  intro h
                  cases h
                clear hcl
                by_cases hlt : k < N
                · go_wp2
                  go_ret
                  exact ⟨by rw [Hbad.out Hnot.out]; rfl, kq⟩
                · go_wp2
                  go_ret
                  exact ⟨by rw [Hbad.out Hnot.out]; rfl, kq⟩
              | true =>
                replace hcl := hcl rfl
                by_cases hlt : k < N
                · have hlt2 : k < xs.length := by omega
                  have hlt1 : k < ys.length := by rw [Hyl.out]; exact hlt
                  obtain ⟨g2, off2, rfl, hat2⟩ := Hop2.out (by intro h; rw [h] at hlt2; exact absurd hlt2 (Nat.not_lt_zero _))
                  obtain ⟨g1, off1, rfl, hat1⟩ := Hop1.out (by intro h; rw [h] at hlt1; exact absurd hlt1 (Nat.not_lt_zero _))
                  obtain ⟨p, cp, lp⟩ := hat2 k hlt2
                  obtain ⟨q, cq, lq⟩ := cells_kept Hk4.out hat1 k hlt1
                  have Hstep := Lib.hid (Tp.ptw_drop hlt2 hlt1)
                  have Hp : Hid ((xs[k] == Tp.plus) = (p.toList == [43])) := by show _ = _; rw [toList_eq, lp]
                  have Hq : Hid ((xs[k] == ys[k]) = (p.toList == q.toList)) := by show _ = _; rw [toList_eq, toList_eq, lp, lq]
                  have Hcl := Lib.hid hcl
                  clear hat2 hat1 lp lq hcl
                  by_cases e1 : (p.toList == [43]) = true
                  · rw [e1] at Hp
                    go_wp2_with fail
                    go_quiet (fail)
                    go_wp2
                    go_roundw
                    case rel => exact ⟨k + 1, true, hlt, rfl, by go_num, fun _ => Hcl.out, by rw [HC.out, Hstep.out, Hp.out]; simp, _, rfl⟩
                    case measure => simp [intOf]; omega
                  · rw [Bool.not_eq_true] at e1
                    rw [e1] at Hp
                    by_cases e2 : (p.toList == q.toList) = true
                    · rw [e2] at Hq
                      go_wp2_with fail
                      go_quiet (fail)
                      go_wp2
                      go_roundw
                      case rel => exact ⟨k + 1, true, hlt, rfl, by go_num, fun _ => Hcl.out, by rw [HC.out, Hstep.out, Hp.out, Hq.out]; simp, _, rfl⟩
                      case measure => simp [intOf]; omega
                    · rw [Bool.not_eq_true] at e2
                      rw [e2] at Hq
                      go_wp2_with fail
                      go_quiet (fail)
                      go_wp2
                      go_roundw
                      case rel => exact ⟨k + 1, false, hlt, rfl, by go_num, fun h => (by cases h), by rw [HC.out, Hstep.out, Hp.out, Hq.out]; simp, _, rfl⟩
                      case measure => simp [intOf]; omega
                · have Hgo : Hid (Tp.good s.data.toList t.data.toList N) := by
                    show Tp.good _ _ _
                    rw [HB2.out, HC.out, List.drop_of_length_le (by omega), List.drop_of_length_le (by rw [Hyl.out]; omega)]
                    rfl
                  clear hcl
                  go_wp2
                  go_roundw
                  case rel => exact ⟨N + 1, by omega, by omega, by go_num, Hout.out Hgo.out, kq⟩
                  case measure => simp [intOf]; omega
        · have Hc : Hid (Tp.covers s.data.toList t.data.toList = true) := Tp.covers_good Hf.out Hg.out fun j h1 h2 => HG.out j h1 (by omega)
          go_wp2
          go_ret
          exact ⟨by rw [Hc.out]; rfl, kr⟩
end Go.Proofs.Ytlpkeimcklhdbaa
