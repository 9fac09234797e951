/-
  The walks of readState, of the closure that reads rows, of readRecords.
-/
import Derived.Test.YtenhncohhikllaaDoorWcrash
import Derived.Test.YtenhncohhikllaaDoorKseal
import Derived.Test.YtenhncohhikllaaDoorKrows
import Derived.Test.YtenhncohhikllaaDoorZrow
import Derived.BigQuiet
import Derived.Deep.RegionHeld3
namespace Go.Proofs.YtenhncohhikllaaDoor
open Go.ChangeShapes Go.WideShapes Go.ChangeAt Go.RowKit

namespace Wg
/-- what was sealed: the round, and what stands behind it -/
def split (s : List UInt8) : Nat × List UInt8 × Nat := if (vget s 0).2.2 ≠ 0 then (0, [], (vget s 0).2.2) else ((vget s 0).1, s.drop (vget s 0).2.1, 0)
theorem head_eq (s : List UInt8) : head s = if s = [] then (0, [], 0) else if (Ck.open_ s 0).2.2 ≠ 0 then (0, [], (Ck.open_ s 0).2.2) else if (Ck.open_ s 0).2.1 < s.length then (0, [], 4) else
    if (split (Ck.open_ s 0).1).2.2 ≠ 0 then (0, [], (split (Ck.open_ s 0).1).2.2) else if 1099511627776 < (split (Ck.open_ s 0).1).1 then (0, [], 4) else split (Ck.open_ s 0).1 := by
  unfold head split
  by_cases h : (vget (Ck.open_ s 0).1 0).2.2 ≠ 0
  · simp only [if_pos h]
  · simp only [if_neg h]
    simp
end Wg
/-- three answers -/
def tupw (x : Nat × List UInt8 × Nat) : Value := .tuple #[.int .u64 x.1, str x.2.1, .int .i64 x.2.2]

set_option maxHeartbeats 400000 in
theorem wseal_any (r : Nat) (s : ByteArray) (w : World) (hr : r < 18446744073709551616) (hs : s.size ≤ 1000000) (hT : Tab w) :
    Calls Tryd.prog 45 #[.int .u64 r, .string s] w fun e w' => e = .returned (str (Ck.seal_ (Wg.row r s.data.toList))) ∧ Kept w w' := by
  go_enter Tryd.func45, Tryd.ntmps45
  go_wp2_with fail
  refine (put_any r _ (by omega) (by omega) hT).mono ?_
  rintro e w1 ⟨rfl, k1⟩
  rw [Int.toNat_natCast]
  obtain ⟨p, hp, sp, lp⟩ := name_str (Vn.vput r)
  rw [hp]
  have hz : Vn.vsz r ≤ 9 := by unfold Vn.vsz; (repeat' split) <;> omega
  rw [Vn.vput_length] at sp
  have Lp := Lib.hid lp
  have HT1 := Lib.hid (hT.kept k1)
  clear hp lp hT
  go_wp2_with fail
  refine (seal_any (p ++ s) _ (by rw [ByteArray.size_append]; omega) HT1.out).mono ?_
  rintro e w2 ⟨rfl, k2⟩
  have e2 : (p ++ s).data.toList = Wg.row r s.data.toList := by
    unfold Wg.row
    rw [← Lp.out]
    simp
  rw [e2]
  unfold str
  go_wp2
  go_ret
  exact ⟨rfl, k1.trans k2⟩

set_option maxHeartbeats 400000 in
theorem wsplit_any (s : ByteArray) (w : World) (hs : s.size ≤ maxLen) (hT : Tab w) :
    Calls Tryd.prog 57 #[.string s] w fun e w' => e = .returned (tupw (Wg.split s.data.toList)) ∧ Kept w w' := by
  have Hl := Lib.hid (size_len s)
  have hv := vget_le s.data.toList 0
  have HS : Hid (Wg.split s.data.toList = if (vget s.data.toList 0).2.2 ≠ 0 then (0, [], (vget s.data.toList 0).2.2) else ((vget s.data.toList 0).1, s.data.toList.drop (vget s.data.toList 0).2.1, 0)) := rfl
  go_enter Tryd.func57, Tryd.ntmps57
  go_wp2_with fail
  refine (get_any s 0 _ hs (by decide) (by decide) hT).mono ?_
  rintro e w1 ⟨rfl, k1⟩
  generalize vget s.data.toList 0 = x at hv HS ⊢
  obtain ⟨n, t, e0⟩ := x
  obtain ⟨h1, h2, h3⟩ := hv
  simp only at h1 h2 h3
  rw [Hl.out] at h2
  unfold tup
  simp only
  by_cases b1 : e0 = 0
  · subst b1
    unfold maxLen at hs
    go_wp2_with fail
    go_quiet (fail)
    go_wp2
    go_ret3
    refine ⟨?_, below_drewN k1 _⟩
    rw [HS.out]
    simp only [ne_eq, not_true_eq_false, if_false]
    unfold tupw str
    have : s.extract t s.size = ⟨(s.data.toList.drop t).toArray⟩ := by
      apply ByteArray.ext
      apply Array.toList_inj.1
      simp [ByteArray.data_extract, List.take_of_length_le]
    simp [this]
  · go_wp2
    go_ret3
    refine ⟨?_, k1⟩
    rw [HS.out]
    simp only [ne_eq, b1, not_false_eq_true, if_true]
    rfl
end Go.Proofs.YtenhncohhikllaaDoor

namespace Go.Proofs.YtenhncohhikllaaDoor
open Go.ChangeShapes Go.WideShapes Go.ChangeAt Go.RowKit

namespace Wg
theorem split_le (s : List UInt8) : (split s).1 ≤ 18446744073709551615 ∧ (split s).2.1.length ≤ s.length ∧ (split s).2.2 ≤ 4 := by
  have h := vget_le s 0
  unfold split
  split
  · exact ⟨Nat.zero_le _, Nat.zero_le _, h.2.2⟩
  · exact ⟨h.1, by rw [List.length_drop]; omega, Nat.zero_le _⟩
/-- the next row that may be read -/
def next (rows : List (List UInt8)) (k : Nat) : Option (Nat × List UInt8) := match rows[k]? with
  | none => none
  | some x => if (split x).2.2 = 0 then some ((split x).1, (split x).2.1) else none
theorem pick_next (r : Nat) (rows : List (List UInt8)) (k : Nat) : pick r (rows.drop k) = match next rows k with
    | none => []
    | some (n, x) => if n = r then x :: pick r (rows.drop (k + 1)) else pick r (rows.drop (k + 1)) := by
  unfold next
  by_cases hk : k < rows.length
  · rw [List.getElem?_eq_getElem hk, List.drop_eq_getElem_cons hk, pick]
    unfold split
    by_cases h : (vget rows[k] 0).2.2 = 0
    · simp [h]
    · simp [h]
  · rw [List.getElem?_eq_none (by omega), List.drop_of_length_le (by omega)]
    rfl
theorem next_some {rows : List (List UInt8)} {k n : Nat} {x : List UInt8} (h : next rows k = some (n, x)) : k < rows.length ∧ n ≤ 18446744073709551615 := by
  unfold next at h
  by_cases hk : k < rows.length
  · refine ⟨hk, ?_⟩
    rw [List.getElem?_eq_getElem hk] at h
    simp only at h
    split at h
    · injection h with h
      injection h with h1 h2
      rw [← h1]
      exact (split_le _).1
    · cases h
  · rw [List.getElem?_eq_none (by omega)] at h
    cases h
theorem allF_le : ∀ (f : Nat) (l : List UInt8) (a : Nat), a ≤ l.length → (Ck.allF f l a).1.length + a ≤ l.length ∧ ∀ x ∈ (Ck.allF f l a).1, x.length ≤ 65536
  | 0, l, a, h => ⟨by show 0 + a ≤ _; omega, fun x hx => by cases hx⟩
  | f + 1, l, a, h => by
    by_cases he : (Ck.open_ l a).2.2 = 0
    · obtain ⟨g1, g2, g3, g4⟩ := Ck.open_at_got l a h he
      rw [Ck.allF_step f l a he]
      obtain ⟨i1, i2⟩ := allF_le f l (Ck.open_ l a).2.1 g2
      refine ⟨by simp only [List.length_cons]; omega, fun x hx => ?_⟩
      rcases List.mem_cons.1 hx with rfl | hx
      · exact g3
      · exact i2 x hx
    · rw [Ck.allF_stop (f + 1) l a he]
      exact ⟨by show 0 + a ≤ _; omega, fun x hx => by cases hx⟩
theorem all_le (l : List UInt8) : (Ck.all_ l).1.length ≤ l.length ∧ ∀ x ∈ (Ck.all_ l).1, x.length ≤ 65536 := by
  have := allF_le (l.length + 1) l 0 (Nat.zero_le _)
  exact ⟨by have := this.1; unfold Ck.all_; omega, this.2⟩
theorem pick_le (r : Nat) : ∀ (l : List (List UInt8)), (∀ x ∈ l, x.length ≤ 65536) → (pick r l).length ≤ l.length ∧ ∀ x ∈ pick r l, x.length ≤ 65536
  | [], _ => ⟨Nat.le_refl _, fun x hx => by cases hx⟩
  | y :: l, h => by
    obtain ⟨i1, i2⟩ := pick_le r l fun x hx => h x (List.mem_cons_of_mem _ hx)
    have hy := h y (List.mem_cons_self ..)
    rw [pick, List.length_cons]
    split
    · exact ⟨Nat.zero_le _, fun x hx => by cases hx⟩
    · split
      · refine ⟨by rw [List.length_cons]; omega, fun x hx => ?_⟩
        rcases List.mem_cons.1 hx with rfl | hx
        · rw [List.length_drop]; omega
        · exact i2 x hx
      · exact ⟨by omega, i2⟩
theorem recs_le (s : List UInt8) (r : Nat) : (recs s r).length ≤ s.length ∧ ∀ x ∈ recs s r, x.length ≤ 65536 := by
  obtain ⟨h1, h2⟩ := all_le s
  obtain ⟨h3, h4⟩ := pick_le r _ h2
  exact ⟨Nat.le_trans h3 h1, h4⟩
theorem head_le (s : List UInt8) : (head s).1 ≤ 1099511627776 ∧ (head s).2.1.length ≤ 65536 ∧ (head s).2.2 ≤ 5 := by
  have h1 := Ck.open_le s 0
  have h2 := split_le (Ck.open_ s 0).1
  have h3 := vget_le (Ck.open_ s 0).1 0
  rw [head_eq]
  (repeat' split)
  all_goals (try simp only at *)
  all_goals first | (refine ⟨by omega, ?_, by omega⟩; first | exact Nat.zero_le _ | omega) | (refine ⟨by omega, ?_, ?_⟩ <;> simp <;> omega)
end Wg

theorem tupw_mk (n : Nat) (z : List UInt8) (p : ByteArray) (e : Nat) (h : str z = .string p) : Ending.returned (.tuple #[.int .u64 (n : Int), .string p, .int .i64 (e : Int)]) = .returned (tupw (n, z, e)) := by
  unfold tupw
  rw [h]
theorem str_ne (s : ByteArray) (h : s.data.toList ≠ []) : s.toList.isEmpty = false := by
  rw [toList_eq]
  simpa using h

set_option maxHeartbeats 1000000 in
theorem readState_any (s : ByteArray) (w : World) (hs : s.size ≤ 1000000) (hT : Tab w) :
    Calls Tryd.prog 36 #[.string s] w fun e w' => e = .returned (tupw (Wg.head s.data.toList)) ∧ Kept w w' := by
  have HQ := Lib.hid (Wg.head_eq s.data.toList)
  have Hl := Lib.hid (size_len s)
  generalize Wg.head s.data.toList = q at HQ ⊢
  by_cases h0 : s.data.toList = []
  · obtain rfl : s = ⟨#[]⟩ := by
      apply ByteArray.ext
      apply Array.toList_inj.1
      simpa using h0
    rw [HQ.out, if_pos rfl]
    unfold tupw str
    go_enter Tryd.func36, Tryd.ntmps36
    go_wp2
    go_ret3
    exact ⟨rfl, Kept.refl w⟩
  · have hE := str_ne s h0
    have hL := Ck.open_le s.data.toList 0
    have H0 := Lib.hid h0
    clear h0
    go_enter Tryd.func36, Tryd.ntmps36
    go_wp2_with fail
    refine (open_any s 0 _ (by omega) (by decide) (by decide) hT).mono ?_
    rintro e w1 ⟨rfl, k1⟩
    generalize Ck.open_ s.data.toList 0 = o at HQ hL ⊢
    obtain ⟨x, t, e0⟩ := o
    obtain ⟨l1, l2, l3⟩ := hL
    simp only at l1 l2 l3
    rw [Hl.out] at l2
    have hsp := Wg.split_le x
    obtain ⟨p, hp, sp, lp⟩ := name_str x
    rw [← sp] at l3
    have HT1 := Lib.hid (hT.kept k1)
    have CS := Lib.hid (wsplit_any p w1 (by unfold maxLen; omega) HT1.out)
    have Lp := Lib.hid lp
    rw [show p.data.toList = x from lp] at CS
    clear hT lp sp
    unfold tups
    simp only
    rw [hp]
    by_cases b1 : e0 = 0
    · subst b1
      by_cases b2 : t = s.size
      · subst b2
        have HQ2 : Hid (q = if (Wg.split x).2.2 ≠ 0 then (0, [], (Wg.split x).2.2) else if 1099511627776 < (Wg.split x).1 then (0, [], 4) else Wg.split x) := by
          show _ = _
          rw [HQ.out, if_neg H0.out, if_neg (by simp), if_neg (by simp only; rw [Hl.out]; omega)]
        clear HQ
        generalize Wg.split x = y at hsp CS HQ2
        obtain ⟨n, z, e1⟩ := y
        obtain ⟨m1, m2, m3⟩ := hsp
        simp only at m1 m2 m3
        go_wp2_with fail
        refine CS.out.mono ?_
        rintro e w2 ⟨rfl, k2⟩
        unfold tupw
        simp only
        obtain ⟨pz, hz, sz, lz⟩ := name_str z
        rw [hz]
        by_cases b3 : e1 = 0
        · subst b3
          by_cases b4 : 1099511627776 < n
          · go_wp2
            go_ret3
            refine ⟨?_, k1.trans k2⟩
            rw [HQ2.out, if_neg (by simp), if_pos b4]
            rfl
          · go_wp2
            go_ret3
            refine ⟨?_, k1.trans k2⟩
            rw [HQ2.out, if_neg (by simp), if_neg b4]
            exact tupw_mk n z pz 0 hz
        · go_wp2
          go_ret3
          refine ⟨?_, k1.trans k2⟩
          rw [HQ2.out, if_pos b3]
          rfl
      · go_wp2
        go_ret3
        refine ⟨?_, k1⟩
        rw [HQ.out, if_neg H0.out, if_neg (by simp), if_pos (by rw [Hl.out]; omega)]
        rfl
    · go_wp2
      go_ret3
      refine ⟨?_, k1⟩
      rw [HQ.out, if_neg H0.out, if_pos b1]
      rfl

theorem rowS : RowTy 49 9 1 16 (.string ⟨#[]⟩) := ⟨Tryd.underlying49, by kernel_rfl, rfl, by decide, by decide⟩
theorem strs_one (l : List (List UInt8)) : ∀ y ∈ l.map str, y.oneCell' = true := fun y hy => by
  obtain ⟨x, _, rfl⟩ := List.mem_map.1 hy
  rfl
/-- a row of texts that may begin within its block -/
def Tx (w : World) (base : Nat) (v : Value) (l : List (List UInt8)) : Prop := OffV 9 1 w base v l.length (l.map str)
theorem OwnS.tx {w : World} {base : Nat} {v : Value} {l : List (List UInt8)} (h : OwnS w base v l) : Tx w base v l := own_offv h (strs_one l)
theorem Tx.kept {w w' : World} {base : Nat} {v : Value} {l : List (List UInt8)} (h : Tx w base v l) (k : Kept w w') : Tx w' base v l := OffV.kept h k
theorem Tx.mono {w : World} {base base' : Nat} {v : Value} {l : List (List UInt8)} (h : Tx w base v l) (k : base' ≤ base) : Tx w base' v l := OffV.mono h k
theorem Tx.nil (w : World) (base : Nat) : Tx w base (.slice none 0 0) [] := OffV.nil _ _ _ _
theorem Tx.strs {w : World} {base : Nat} {v : Value} {l : List (List UInt8)} (h : Tx w base v l) : Strs w v l := by
  obtain ⟨h0, h1, a, cap, rfl, h2, h3, h4⟩ := OffV.src h
  refine ⟨a, cap, rfl, h2, h3, ?_⟩
  rcases h4 with h4 | ⟨g, off, rfl, hg, hc⟩
  · exact .inl (List.eq_nil_of_length_eq_zero h4)
  · exact .inr ⟨g, off, rfl, hg, fun i x hx => hc i _ (by rw [List.getElem?_map, hx]; rfl)⟩
theorem Tx.form {w : World} {base : Nat} {v : Value} {l : List (List UInt8)} (h : Tx w base v l) : ∃ a cap, v = .slice a l.length cap := OffV.form h
/-- a text of a row, in memory -/
theorem Tx.at {w : World} {base : Nat} {a : Option Addr} {n cap : Nat} {l : List (List UInt8)} (h : Tx w base (.slice a n cap) l) {k : Nat} (hk : k < l.length) :
    ∃ g off, a = some ⟨g, off, none⟩ ∧ n ≤ cap ∧ cap ≤ maxLen ∧ base ≤ g ∧ ∃ p : ByteArray, w.cell? ⟨g, off + k, none⟩ = some (.string p) ∧ p.data.toList = l[k] := by
  obtain ⟨_, _, h⟩ := h
  rcases h with ⟨e, h1⟩ | ⟨g, off, cap', cur, e, h2, h3, h4, hg, h5, h6⟩
  · omega
  · cases e
    obtain ⟨p, hp, _, lp⟩ := name_str l[k]
    refine ⟨g, off, rfl, h2, h3, h4, p, ?_, lp⟩
    have := h6 k (str l[k]) (by rw [List.getElem?_map, List.getElem?_eq_getElem hk]; rfl)
    rw [hp] at this
    simp [World.cell?, hg, this]

/-- what the closure that reads rows holds: its place in block A, the rows' value in block R -/
structure Rdr (w : World) (base A R : Nat) (v : Value) (rows : List (List UInt8)) (k : Nat) : Prop where
  at_ : w.heap[A]? = some (.cells #[.int .i64 k] 3 (0, 0))
  rv : w.heap[R]? = some (.cells #[v] 49 (0, 0))
  row : Tx w base v rows
  low : base ≤ A
theorem Rdr.kept {w w' : World} {base A R : Nat} {v : Value} {rows : List (List UInt8)} {k : Nat} (h : Rdr w base A R v rows k) (q : Kept w w') : Rdr w' base A R v rows k :=
  ⟨(Below.block q A (heap_lt h.at_)).trans h.at_, (Below.block q R (heap_lt h.rv)).trans h.rv, h.row.kept q, h.low⟩
/-- the place has gone on -/
theorem Rdr.again {w w' : World} {base A R : Nat} {v : Value} {rows : List (List UInt8)} {k n : Nat} (h : Rdr w base A R v rows k) (b : But (fun i => i = A) w w') (ha : w'.heap[A]? = some (.cells #[.int .i64 n] 3 (0, 0))) : Rdr w' base A R v rows n := by
  refine ⟨ha, b.at h.rv fun e => ?_, OffV.other h.row h.at_ (by decide) b, h.low⟩
  subst e
  have := h.at_
  rw [h.rv] at this
  injection this with this
  injection this with _ h2
  exact absurd h2 (by decide)

set_option maxHeartbeats 1000000 in
theorem reader_any (s : ByteArray) (w : World) (hs : s.size ≤ 1000000) (hT : Tab w) :
    Calls Tryd.prog 58 #[.string s] w fun e w' => ∃ A R v, e = .returned (.func (.func 74) #[] #[.pointer (some ⟨A, 0, none⟩), .pointer (some ⟨R, 0, none⟩)]) ∧ Rdr w' w.heap.size A R v (Ck.all_ s.data.toList).1 0 ∧ Kept w w' := by
  have hmf : ∀ (fn : Fn) (first cap : Array Value) (w : World), (Instr.makeFunc fn first cap).run Tryd.prog w = .ok (.func fn first cap) w := fun _ _ _ _ => rfl
  go_enter Tryd.func58, Tryd.ntmps58
  go_wp2_with fail
  refine (all_any s _ hs hT).mono ?_
  rintro e w1 ⟨v, rfl, o1, k1⟩
  obtain ⟨a, cap, rfl⟩ := o1.tx.form
  have O1 := Lib.hid o1
  have K1 := Lib.hid k1
  clear o1 k1 hT
  go_wp2
  go_ret
  refine ⟨w1.heap.size + 1, w1.heap.size, .slice a (Ck.all_ s.data.toList).1.length cap, rfl, ?_, (K1.out.alloc _).alloc _⟩
  have o2 := O1.out.tx.kept (((Kept.refl w1).alloc (.cells #[.slice a (Ck.all_ s.data.toList).1.length cap] 49)).alloc (.cells #[.int .i64 0] 3))
  refine ⟨?_, ?_, o2, Nat.le_succ_of_le K1.out.size⟩
  · have := heap_alloc_new (w1.alloc (.cells #[.slice a (Ck.all_ s.data.toList).1.length cap] 49)) (.cells #[.int .i64 0] 3)
    rwa [World.size_alloc] at this
  · exact (Below.block ((Kept.refl (w1.alloc (.cells #[.slice a (Ck.all_ s.data.toList).1.length cap] 49))).alloc (.cells #[.int .i64 0] 3)) w1.heap.size (by rw [World.size_alloc]; omega)).trans (heap_alloc_new w1 _)

set_option maxHeartbeats 1000000 in
/-- one more row -/
theorem next_any {base A R : Nat} {v : Value} {rows : List (List UInt8)} {k : Nat} (w : World) (h : Rdr w base A R v rows k) (hk : k ≤ rows.length) (hn : rows.length ≤ 1000000) (hl : ∀ x ∈ rows, x.length ≤ 65536) (hT : Tab w) :
    Calls Tryd.prog 74 #[.pointer (some ⟨A, 0, none⟩), .pointer (some ⟨R, 0, none⟩)] w fun e w' => match Wg.next rows k with
      | none => e = .returned (.tuple #[.int .u64 0, .string ⟨#[]⟩, .bool false]) ∧ Kept w w'
      | some (n, x) => e = .returned (.tuple #[.int .u64 n, str x, .bool true]) ∧ ∃ w1, Kept w w1 ∧ w' = w1.setCell ⟨A, 0, none⟩ (.int .i64 (k + 1 : Nat)) := by
  obtain ⟨a, cap, rfl⟩ := h.row.form
  have cA : w.cell? ⟨A, 0, none⟩ = some (.int .i64 k) := by simp [World.cell?, h.at_]
  have cR : w.cell? ⟨R, 0, none⟩ = some (.slice a rows.length cap) := by simp [World.cell?, h.rv]
  have H := Lib.hid h
  have HN : Hid (Wg.next rows k = match rows[k]? with
    | none => none
    | some x => if (Wg.split x).2.2 = 0 then some ((Wg.split x).1, (Wg.split x).2.1) else none) := rfl
  generalize Wg.next rows k = nx at HN ⊢
  clear h
  by_cases hlt : k < rows.length
  · obtain ⟨g, off, rfl, hc1, hc2, _, p, hp, lp⟩ := H.out.row.at hlt
    have hx := hl _ (List.getElem_mem hlt)
    rw [List.getElem?_eq_getElem hlt] at HN
    rw [← lp] at hx HN
    rw [size_len] at hx
    have CS := Lib.hid (wsplit_any p w (by unfold maxLen; omega) hT)
    have hsp := Wg.split_le p.data.toList
    unfold maxLen at hc2
    have HN2 : Hid (nx = if (Wg.split p.data.toList).2.2 = 0 then some ((Wg.split p.data.toList).1, (Wg.split p.data.toList).2.1) else none) := HN
    clear HN lp hl hT
    generalize Wg.split p.data.toList = y at CS HN2 hsp
    obtain ⟨n, z, e1⟩ := y
    obtain ⟨m1, _, m3⟩ := hsp
    simp only at m1 m3
    obtain ⟨pz, hz, sz, lz⟩ := name_str z
    have Hz := Lib.hid hz
    clear sz lz hz
    have hkn : ¬ (k : Int) = rows.length := by omega
    have r1 : IntKind.i64.wrap ((k : Int) + 1) = (k : Int) + 1 := by rw [IntKind.wrap_i64]; omega
    have HK := Lib.hid fun w2 (k2 : Kept w w2) => H.out.kept k2
    by_cases b : e1 = 0
    · subst b
      obtain rfl : nx = some (n, z) := by rw [HN2.out, if_pos rfl]
      clear HN2
      go_enter Tryd.func74, Tryd.ntmps74
      go_wp2_with fail
      refine CS.out.mono ?_
      rintro e w2 ⟨rfl, k2⟩
      unfold tupw
      simp only
      rw [Hz.out]
      have cA2 : w2.cell? ⟨A, 0, none⟩ = some (.int .i64 k) := by simp [World.cell?, (HK.out w2 k2).at_]
      have fA2 : w2.frozen? ⟨A, 0, none⟩ = false := by simp [World.frozen?, (HK.out w2 k2).at_]
      go_wp2
      go_ret3
      refine ⟨?_, w2, k2, ?_⟩
      · rw [Hz.out]
        rfl
      · congr 1
    · obtain rfl : nx = none := by rw [HN2.out, if_neg b]
      clear HN2
      go_enter Tryd.func74, Tryd.ntmps74
      go_wp2_with fail
      refine CS.out.mono ?_
      rintro e w2 ⟨rfl, k2⟩
      unfold tupw
      simp only
      rw [Hz.out]
      go_wp2
      go_ret3
      exact ⟨rfl, k2⟩
  · have hkk : k = rows.length := by omega
    have e0 : nx = none := by rw [HN.out, List.getElem?_eq_none (by omega)]
    subst hkk e0
    go_enter Tryd.func74, Tryd.ntmps74
    go_wp2
    go_ret3
    exact ⟨rfl, Kept.refl w⟩
end Go.Proofs.YtenhncohhikllaaDoor
