/-
  The walks of readRecords and rowsOf.
-/
import Derived.Test.YtenhncohhikllaaDoorWread
import Derived.Test.YtenhncohhikllaaDoorWbuild
namespace Go.Proofs.YtenhncohhikllaaDoor
open Go.ChangeShapes Go.WideShapes Go.ChangeAt Go.RowKit

/-- the number that block A holds -/
def numAt (w : World) (A : Nat) : Nat := match w.heap[A]? with
  | some (.cells c _ _) => (intOf (c.getD 0 (.int .i64 0))).toNat
  | _ => 0
theorem numAt_of {w : World} {A k : Nat} {t : TypeId} {fz : Nat × Nat} (h : w.heap[A]? = some (.cells #[.int .i64 k] t fz)) : numAt w A = k := by
  unfold numAt
  rw [h]
  simp [intOf]

/-- a row of texts, all its room cut off -/
theorem Tx.full {w : World} {base : Nat} {a : Option Addr} {n cap : Nat} {l : List (List UInt8)} (h : Tx w base (.slice a n cap) l) : n = l.length ∧ ((a = none ∧ n = 0 ∧ cap = 0) ∨ ∃ g off, a = some ⟨g, off, none⟩ ∧ n ≤ cap ∧ cap ≤ maxLen ∧ Tx w base (.slice a n n) l) := by
  obtain ⟨a', c', e⟩ := h.form
  cases e
  refine ⟨rfl, ?_⟩
  obtain ⟨h0, h1, h⟩ := h
  rcases h with ⟨e, h2⟩ | ⟨g, off, cap', cur, e, h2, h3, h4, hg, h5, h6⟩
  · injection e with e1 e2 e3
    exact .inl ⟨e1, h2, e3⟩
  · cases e
    exact .inr ⟨g, off, rfl, h2, h3, ⟨h0, h1, .inr ⟨g, off, l.length, cur, rfl, Nat.le_refl _, by omega, h4, hg, by omega, h6⟩⟩⟩

set_option maxHeartbeats 2000000 in
set_option maxRecDepth 100000 in
theorem readRecords_any (s : ByteArray) (r : Nat) (w : World) (hs : s.size ≤ 1000000) (hr : r < 18446744073709551616) (hT : Tab w) :
    Calls Tryd.prog 37 #[.string s, .int .u64 r] w fun e w' => ∃ v, e = .returned v ∧ Tx w' w.heap.size v (Wg.recs s.data.toList r) ∧ Kept w w' := by
  have HA := Lib.hid (Wg.all_le s.data.toList)
  have CR := Lib.hid (reader_any s w hs hT)
  have HP : Hid (Wg.recs s.data.toList r = Wg.pick r (Ck.all_ s.data.toList).1) := rfl
  have hsz : s.data.toList.length ≤ 1000000 := by rw [size_len]; exact hs
  have HT := Lib.hid hT
  clear hT
  generalize Wg.recs s.data.toList r = out at HP ⊢
  generalize (Ck.all_ s.data.toList).1 = rows at HA HP CR
  have hn : rows.length ≤ 1000000 := Nat.le_trans HA.out.1 hsz
  clear hsz
  go_enter Tryd.func37, Tryd.ntmps37
  go_wp2_with fail
  refine CR.out.mono ?_
  rintro e w1 ⟨A, R, vr, rfl, h, k1⟩
  have H := Lib.hid h
  have K1 := Lib.hid k1
  clear h k1 CR
  go_wp2
  go_loopw [5, 7, 8, 9] (fun v _ _ _ wr => ∃ (k : Nat) (l : List (List UInt8)), k ≤ rows.length ∧ l.length ≤ k ∧ Hid (Tx wr w1.heap.size v l) ∧ Hid (wr.heap[A]? = some (.cells #[.int .i64 k] 3 (0, 0))) ∧ Hid (But (fun i => i = A) w1 wr) ∧ Hid (out = l ++ Wg.pick r (rows.drop k))) (fun _ _ _ _ wr => rows.length - numAt wr A)
  case atStart => exact ⟨0, [], Nat.zero_le _, Nat.zero_le _, Lib.hid (Tx.nil _ _), Lib.hid H.out.at_, Lib.hid (But.refl _ _), HP⟩
  case round =>
    obtain ⟨k, l, hk, hl, hx, ha, hb, ho⟩ := hrel
    rename_i wr
    have KR : Hid (Kept w wr) := Lib.hid (But.after K1.out hb.out fun i hi e => by have := H.out.low; omega)
    have CN := Lib.hid (next_any wr (H.out.again hb.out ha.out) hk hn HA.out.2 (HT.out.kept KR.out))
    have hpn := Lib.hid (Wg.pick_next r rows k)
    rcases hnx : Wg.next rows k with _ | ⟨n, x⟩
    · rw [hnx] at CN hpn
      obtain ⟨a, cap, rfl⟩ := hx.out.form
      rcases hx.out.full.2 with ⟨rfl, h0, rfl⟩ | ⟨g, off, rfl, h1, h2, h3⟩
      · have hl0 : l = [] := List.eq_nil_of_length_eq_zero h0
        subst hl0
        simp only [List.length_nil]
        go_wp2_with fail
        refine CN.out.mono ?_
        rintro e w2 ⟨rfl, k2⟩
        go_wp2
        go_ret
        exact ⟨_, rfl, by rw [ho.out, hpn.out]; exact Tx.nil _ _, KR.out.trans k2⟩
      · unfold maxLen at h2
        have H3 := Lib.hid h3
        clear h3
        go_wp2_with fail
        refine CN.out.mono ?_
        rintro e w2 ⟨rfl, k2⟩
        go_wp2
        go_ret
        refine ⟨_, rfl, ?_, KR.out.trans k2⟩
        rw [ho.out, hpn.out, List.append_nil]
        exact (H3.out.kept k2).mono K1.out.size
    · rw [hnx] at CN hpn
      obtain ⟨hlt, hn2⟩ := Wg.next_some hnx
      simp only at CN hpn
      obtain ⟨p, hp, _, _⟩ := name_str x
      have Hp := Lib.hid hp
      obtain ⟨a, cap, rfl⟩ := hx.out.form
      clear hnx hp
      go_wp2_with fail
      refine CN.out.mono ?_
      rintro e w2 ⟨rfl, w3, k3, rfl⟩
      rw [Hp.out]
      have b4 := but_cell0 w3 A 0 (.int .i64 (k + 1 : Nat))
      have ha3 := (Below.block k3 A (heap_lt ha.out)).trans ha.out
      have ha4 : (w3.setCell ⟨A, 0, none⟩ (.int .i64 (k + 1 : Nat))).heap[A]? = some (.cells #[.int .i64 (k + 1 : Nat)] 3 (0, 0)) := by simp [World.setCell, Array.getElem?_modify, ha3]
      have hx4 : Tx (w3.setCell ⟨A, 0, none⟩ (.int .i64 (k + 1 : Nat))) w1.heap.size (.slice a l.length cap) l := OffV.other (hx.out.kept k3) ha3 (by decide) b4
      have hb4 : But (fun i => i = A) w1 (w3.setCell ⟨A, 0, none⟩ (.int .i64 (k + 1 : Nat))) := (hb.out.trans k3.but fun _ _ h => h).trans b4 fun _ _ h => h
      have HA4 := Lib.hid ha4
      have HX4 := Lib.hid hx4
      have HB4 := Lib.hid hb4
      generalize w3.setCell ⟨A, 0, none⟩ (.int .i64 (k + 1 : Nat)) = w4 at HA4 HX4 HB4 ⊢
      have hm : numAt wr A = k := numAt_of ha.out
      have hm4 : numAt w4 A = k + 1 := numAt_of HA4.out
      clear b4 ha3 ha4 hx4 hb4 k3 CN
      by_cases hnr : n = r
      · subst hnr
        rw [if_pos rfl] at hpn
        have HX5 := Lib.hid (OffV.kept HX4.out ((Kept.refl w4).alloc (.cells #[.string p] 9)))
        have hs4 := HB4.out.size
        have HB5 : Hid (w1.heap.size ≤ (w4.alloc (.cells #[.string p] 9)).heap.size) := Lib.hid (by rw [World.size_alloc]; omega)
        have hl1 : l.length + 1 ≤ 1000001 := by omega
        go_wp2_with (at_builtin; refine wp_rapp rowS (base := w1.heap.size) (v := .slice a l.length cap) (n := l.length) (m := 1) (xs := l.map str) (ys := [.string p]) HX5.out (Src.one w4 [.string p] 9 rfl (one_one p)) hl1 HB5.out rfl _ _ rfl rfl rfl ?_)
        intro v6 w6 o6 g6 b6 n6
        have o7 : Tx w6 w1.heap.size v6 (l ++ [x]) := by
          unfold Tx
          rw [List.length_append, List.map_append, List.map_singleton, Hp.out]
          exact o6
        have hb6 : But (fun i => i = A) w1 w6 := (HB4.out.trans ((Kept.refl w4).alloc (.cells #[.string p] 9)).but fun _ _ h => h).trans b6 fun i hi e => by
          have := (HX5.out.blk e).1
          omega
        have ha6 : w6.heap[A]? = some (.cells #[.int .i64 (k + 1 : Nat)] 3 (0, 0)) := b6.at ((Below.block ((Kept.refl w4).alloc (.cells #[.string p] 9)) A (heap_lt HA4.out)).trans HA4.out) fun e => by
          have := (HX5.out.blk e).1
          have := heap_lt H.out.at_
          omega
        have hm6 : numAt w6 A = k + 1 := numAt_of ha6
        have O7 := Lib.hid o7
        have HB6 := Lib.hid hb6
        have HA6 := Lib.hid ha6
        obtain ⟨a6, cap6, rfl⟩ := o7.form
        clear o6 g6 b6 n6 o7 hb6 ha6 HX5 HX4 HB4 HA4 hm4
        go_wp2
        go_roundw
        case rel => exact ⟨k + 1, l ++ [x], by omega, by rw [List.length_append, List.length_singleton]; omega, O7, HA6, HB6, Lib.hid (by rw [ho.out, hpn.out, List.append_assoc]; rfl)⟩
        case measure => rw [hm6, hm]; omega
      · rw [if_neg hnr] at hpn
        have hnr' : ¬ (n : Int) = r := by omega
        go_wp2
        go_roundw
        case rel => exact ⟨k + 1, l, by omega, by omega, HX4, HA4, HB4, Lib.hid (by rw [ho.out, hpn.out])⟩
        case measure => rw [hm4, hm]; omega
end Go.Proofs.YtenhncohhikllaaDoor
