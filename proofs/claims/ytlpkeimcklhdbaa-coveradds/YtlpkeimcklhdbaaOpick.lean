/-
  Those of a row that stay: the walks of pick, Least, Diff, Lets, Holds.
-/
import Derived.Test.YtlpkeimcklhdbaaOsort
import Derived.Test.YtlpkeimcklhdbaaTmatch
namespace Go.Proofs.Ytlpkeimcklhdbaa
open Go.ChangeShapes Go.WideShapes Go.ChangeAt Go.RowKit

theorem take_filter (q : List UInt8 → Bool) (xs : List (List UInt8)) (k : Nat) (h : k < xs.length) : (xs.take (k + 1)).filter q = (xs.take k).filter q ++ (if q xs[k] = true then [xs[k]] else []) := by
  rw [List.take_add_one, List.getElem?_eq_getElem h, List.filter_append]
  congr 1
  simp [List.filter_cons]

set_option maxHeartbeats 2000000 in
set_option maxRecDepth 100000 in
theorem pick_any (v : Value) (xs : List (List UInt8)) (w : World) (hS : Strs w v xs) (hl : xs.length ≤ 1000) (others : Nat) (ho : others ≤ 1000) (g : Nat) (lb : Array Value)
    (eg : ∀ args w, (callFunc g args).run Try.prog w = .ok (.enter g args) w) (p : Nat → Nat → Bool)
    (hst : ∀ W i j, Kept w W → i < xs.length → j < others → Calls Try.prog g (#[.int .i64 (i : Nat), .int .i64 (j : Nat)] ++ lb) W fun e W' => e = .returned (.bool (p i j)) ∧ Kept W W')
    (q : List UInt8 → Bool) (hq1 : ∀ i (h : i < xs.length), (∀ j, j < others → p i j = true) → q xs[i] = true) (hq2 : ∀ i (h : i < xs.length) j, j < others → p i j = false → q xs[i] = false) :
    Calls Try.prog 30 #[v, .int .i64 others, .func (.func g) #[] lb] w fun e w' => ∃ v', e = .returned v' ∧ OwnS w' w.heap.size v' (xs.filter q) ∧ Kept w w' := by
  obtain ⟨a, cap, rfl, hc1, hc2, hat⟩ := strs_get hS
  have HA := Lib.hid hat
  have HST := Lib.hid hst
  have HQ1 := Lib.hid hq1
  have HQ2 := Lib.hid hq2
  clear hat hst hq1 hq2 hS hc2
  go_enter Try.func30, Try.ntmps30
  go_wp2
  go_step3
  go_wp2
  go_step3
  go_wp2
  go_loopw [7, 12] (fun r i wr => ∃ k : Nat, k ≤ xs.length ∧ i = .int .i64 k ∧ OwnS wr w.heap.size r ((xs.take k).filter q) ∧ Kept w wr) (fun _ i _ => xs.length - (intOf i).toNat)
  case atStart => exact ⟨0, Nat.zero_le _, rfl, OwnS.nil _ _, Kept.refl _⟩
  case round =>
    obtain ⟨k, hk, rfl, hown, kr⟩ := hrel
    by_cases hlt : k < xs.length
    · have Hst := Lib.hid (take_filter q xs k hlt)
      have hfl : ((xs.take k).filter q).length ≤ 1000 := Nat.le_trans (List.length_filter_le _ _) (by rw [List.length_take]; omega)
      go_wp2
      go_loopw [16] (fun j wx => ∃ m : Nat, m ≤ others ∧ j = .int .i64 m ∧ (∀ j', j' < m → p k j' = true) ∧ OwnS wx w.heap.size u7 ((xs.take k).filter q) ∧ Kept w wx) (fun j _ => others - (intOf j).toNat)
      case atStart => exact ⟨0, Nat.zero_le _, rfl, fun j' h => absurd h (Nat.not_lt_zero _), hown, kr⟩
      case round =>
        obtain ⟨m, hm, rfl, hall, hownx, kx⟩ := hrel
        have HAll := Lib.hid hall
        clear hall hown
        by_cases hmt : m < others
        · have hcall := HST.out _ k m kx hlt hmt
          cases hp : p k m with
          | true =>
            rw [hp] at hcall
            have HP := Lib.hid hp
            clear hp
            go_wp2_with fail
            refine hcall.mono ?_
            rintro e w1 ⟨rfl, k1⟩
            go_wp2
            go_roundw
            case rel => exact ⟨m + 1, by omega, by go_num, fun j' hj => by
                          by_cases e : j' = m
                          · subst e; exact HP.out
                          · exact HAll.out j' (by omega), hownx.kept k1, kx.trans k1⟩
            case measure => simp [intOf]; omega
          | false =>
            rw [hp] at hcall
            have Hqf := Lib.hid (HQ2.out k hlt m hmt hp)
            clear hp
            go_wp2_with fail
            refine hcall.mono ?_
            rintro e w1 ⟨rfl, k1⟩
            go_wp2
            go_roundw
            case rel => exact ⟨k + 1, by omega, by go_num, by rw [Hst.out, Hqf.out]; simpa using hownx.kept k1, kx.trans k1⟩
            case measure => simp [intOf]; omega
        · have Hqt := Lib.hid (HQ1.out k hlt (fun j hj => HAll.out j (by omega)))
          obtain ⟨b, off, pp, rfl, hb, hc, lp⟩ := HA.out k hlt
          have hck := (Below.cell kx (p := ⟨b, off + k, none⟩) hb).trans hc
          rw [← lp] at Hst Hqt
          clear hc lp
          go_wp2_with (first | (at_builtin; refine wp_snoc hownx (by omega) kx.size pp rfl _ _ rfl rfl rfl ?_))
          intro g' cap' w3 hown3 hb3
          go_wp2
          go_roundw
          case rel => exact ⟨k + 1, by omega, by go_num, by rw [Hst.out, Hqt.out]; simpa using hown3, Below.trans kx hb3⟩
          case measure => simp [intOf]; omega
    · have hke : k = xs.length := by omega
      subst hke
      rw [List.take_length] at hown
      go_wp2
      rw [Exit.noGoto_ret]
      go_ret
      exact ⟨_, rfl, hown, kr⟩

/-- a captured row: its variable's cell -/
def Box (w : World) (b : Nat) (v : Value) : Prop := b < w.heap.size ∧ w.cell? ⟨b, 0, none⟩ = some v
theorem Box.kept {w w' : World} {b : Nat} {v : Value} (h : Box w b v) (k : Kept w w') : Box w' b v := ⟨Nat.lt_of_lt_of_le h.1 k.size, (Below.cell k (p := ⟨b, 0, none⟩) h.1).trans h.2⟩

set_option maxHeartbeats 2000000 in
set_option maxRecDepth 100000 in
theorem diff1_any (b1 b2 : Nat) (v1 v2 : Value) (xs ys : List (List UInt8)) (w : World) (h1 : Box w b1 v1) (h2 : Box w b2 v2) (s1 : Strs w v1 xs) (s2 : Strs w v2 ys) (i j : Nat) (hi : i < xs.length) (hj : j < ys.length) :
    Calls Try.prog 35 #[.int .i64 i, .int .i64 j, .pointer (some ⟨b1, 0, none⟩), .pointer (some ⟨b2, 0, none⟩)] w fun e w' => e = .returned (.bool (xs[i] != ys[j])) ∧ Kept w w' := by
  obtain ⟨a1, cap1, rfl, _, _, hat1⟩ := strs_get s1
  obtain ⟨a2, cap2, rfl, _, _, hat2⟩ := strs_get s2
  obtain ⟨g1, o1, p, rfl, _, cp, lp⟩ := hat1 i hi
  obtain ⟨g2, o2, q, rfl, _, cq, lq⟩ := hat2 j hj
  have e1 : (xs[i] != ys[j]) = (p.toList != q.toList) := by rw [toList_eq, toList_eq, lp, lq]
  have c1 := h1.2
  have c2 := h2.2
  rw [e1]
  clear hat1 hat2 lp lq s1 s2 e1 h1 h2
  go_enter Try.func35, Try.ntmps35
  go_wp2
  go_quiet (fail)
  go_wp2
  go_ret
  exact ⟨rfl, below_drewN (Kept.refl w) _⟩

set_option maxHeartbeats 2000000 in
set_option maxRecDepth 100000 in
theorem diff2_any (b1 b2 : Nat) (v1 v2 : Value) (xs ys : List (List UInt8)) (w : World) (h1 : Box w b1 v1) (h2 : Box w b2 v2) (s1 : Strs w v1 xs) (s2 : Strs w v2 ys) (i j : Nat) (hi : i < xs.length) (hj : j < ys.length) :
    Calls Try.prog 36 #[.int .i64 i, .int .i64 j, .pointer (some ⟨b1, 0, none⟩), .pointer (some ⟨b2, 0, none⟩)] w fun e w' => e = .returned (.bool (xs[i] != ys[j])) ∧ Kept w w' := by
  obtain ⟨a1, cap1, rfl, _, _, hat1⟩ := strs_get s1
  obtain ⟨a2, cap2, rfl, _, _, hat2⟩ := strs_get s2
  obtain ⟨g1, o1, p, rfl, _, cp, lp⟩ := hat1 i hi
  obtain ⟨g2, o2, q, rfl, _, cq, lq⟩ := hat2 j hj
  have e1 : (xs[i] != ys[j]) = (p.toList != q.toList) := by rw [toList_eq, toList_eq, lp, lq]
  have c1 := h1.2
  have c2 := h2.2
  rw [e1]
  clear hat1 hat2 lp lq s1 s2 e1 h1 h2
  go_enter Try.func36, Try.ntmps36
  go_wp2
  go_quiet (fail)
  go_wp2
  go_ret
  exact ⟨rfl, below_drewN (Kept.refl w) _⟩
end Go.Proofs.Ytlpkeimcklhdbaa
