/-
  The walk of rowsOf.
-/
import Derived.Test.YtenhncohhikllaaDoorWrecs
namespace Go.Proofs.YtenhncohhikllaaDoor
open Go.ChangeShapes Go.WideShapes Go.ChangeAt Go.RowKit

namespace Wg
theorem vsz_le (n : Nat) : Vn.vsz n ≤ 9 := by unfold Vn.vsz; (repeat' split) <;> omega
theorem seal_row_le (r : Nat) (s : List UInt8) : (Ck.seal_ (row r s)).length ≤ s.length + 22 := by
  rw [Ck.seal_length, row_length]
  have := vsz_le r
  have := vsz_le (Vn.vsz r + s.length)
  omega
theorem text_le (r m : Nat) (l : List (List UInt8)) (h : ∀ x ∈ l, x.length ≤ m) : (text r l).length ≤ (m + 22) * l.length := by
  induction l with
  | nil => exact Nat.zero_le _
  | cons x l ih =>
    have e : text r (x :: l) = Ck.seal_ (row r x) ++ text r l := rfl
    have h1 := ih fun y hy => h y (List.mem_cons_of_mem _ hy)
    have h2 := seal_row_le r x
    have h3 := h x (List.mem_cons_self ..)
    rw [e, List.length_append, List.length_cons, Nat.mul_succ]
    omega
theorem text_take_succ (r : Nat) (l : List (List UInt8)) (k : Nat) (h : k < l.length) : text r (l.take (k + 1)) = text r (l.take k) ++ Ck.seal_ (row r l[k]) := by
  rw [List.take_succ_eq_append_getElem h, text_snoc]
end Wg

set_option maxHeartbeats 2000000 in
set_option maxRecDepth 100000 in
theorem rowsOf_any (r : Nat) (v : Value) (l : List (List UInt8)) (w : World) (hv : Strs w v l) (hr : r < 18446744073709551616) (hn : l.length ≤ 1000000) (hl : ∀ x ∈ l, x.length ≤ 65536) (hT : Tab w) :
    Calls Tryd.prog 38 #[.int .u64 r, v] w fun e w' => e = .returned (str (Wg.text r l)) ∧ Kept w w' := by
  have HV := Lib.hid hv
  have HT := Lib.hid hT
  have HLen := Lib.hid hl
  obtain ⟨a, cap, rfl, hc1, hc2, _⟩ := hv
  unfold maxLen at hc2
  clear hT hl
  obtain ⟨n, hnn⟩ : ∃ n, n = l.length := ⟨_, rfl⟩
  rw [← hnn] at hc1 hn HV ⊢
  have HN := Lib.hid hnn
  clear hnn
  go_enter Tryd.func38, Tryd.ntmps38
  go_wp2
  go_loopw [7, 10] (fun _ i wr => ∃ k : Nat, k ≤ n ∧ i = .int .i64 k ∧ Hid (Bld w.heap.size w.heap.size (Wg.text r (l.take k)) wr) ∧ Hid (Kept w wr)) (fun _ i _ => n - (intOf i).toNat)
  case atStart => exact ⟨0, Nat.zero_le _, rfl, Lib.hid (bld_new w), Lib.hid ((Kept.refl w).alloc _)⟩
  case round =>
    obtain ⟨k, hk, rfl, hb, kr⟩ := hrel
    rename_i wr
    by_cases hlt : k < n
    · have hkl : k < l.length := by rw [← HN.out]; exact hlt
      obtain ⟨a', cap', e, _, _, h3⟩ := HV.out
      cases e
      rcases h3 with h3 | ⟨g, off, rfl, hg, hc⟩
      · subst h3
        cases hkl
      · obtain ⟨p, hp, _, lp⟩ := name_str l[k]
        have hc0 := (Below.cell kr.out (p := ⟨g, off + k, none⟩) hg).trans (hc k _ (List.getElem?_eq_getElem hkl))
        rw [hp] at hc0
        have hps : p.size ≤ 65536 := by rw [← size_len, lp]; exact HLen.out _ (List.getElem_mem hkl)
        have CS := Lib.hid (wseal_any r p wr hr (by omega) (HT.out.kept kr.out))
        rw [lp] at CS
        obtain ⟨q, hq, sq, lq⟩ := name_str (Ck.seal_ (Wg.row r l[k]))
        rw [hq] at CS
        have hqs : q.size ≤ 65558 := by
          have h1 := Wg.seal_row_le r l[k]
          have h2 := HLen.out _ (List.getElem_mem hkl)
          omega
        have hql : Hid (Wg.text r (l.take k) ++ q.data.toList = Wg.text r (l.take (k + 1))) := Lib.hid (by rw [Wg.text_take_succ r l k hkl, lq])
        have htl : (Wg.text r (l.take k)).length ≤ 65558 * 1000000 := by
          have h1 := Wg.text_le r 65536 (l.take k) fun x hx => HLen.out x (List.mem_of_mem_take hx)
          have h2 : (l.take k).length ≤ k := by rw [List.length_take]; omega
          exact Nat.le_trans h1 (Nat.mul_le_mul (by omega) (by omega))
        clear hp lp hq sq lq hc
        go_wp2_with fail
        refine CS.out.mono ?_
        rintro e w2 ⟨rfl, k2⟩
        have HB2 := Lib.hid (hb.out.kept k2)
        have KR2 := Lib.hid (kr.out.trans k2)
        clear k2
        go_wp2_with fail
        refine (bwrite_any _ _ _ q w2 HB2.out (by omega)).mono ?_
        rintro e w3 ⟨rfl, h3, b3⟩
        rw [hql.out] at h3
        have HB3 := Lib.hid h3
        have KR3 : Hid (Kept w w3) := Lib.hid (Below.trans KR2.out b3)
        clear h3 b3
        go_wp2
        go_roundw
        case rel => exact ⟨k + 1, by omega, by go_num, HB3, KR3⟩
        case measure => simp [intOf]; omega
    · have hkk : k = n := by omega
      have e : l.take k = l := by rw [hkk, HN.out, List.take_length]
      rw [e] at hb
      subst hkk
      go_wp2_with fail
      refine (bstring_any _ _ _ _ hb.out).mono ?_
      rintro e w2 ⟨rfl, b2⟩
      have K2 : Kept w w2 := Below.trans kr.out b2
      unfold str
      go_wp2
      go_ret
      exact ⟨rfl, K2⟩
end Go.Proofs.YtenhncohhikllaaDoor
