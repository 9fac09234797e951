/-
  The walk of the law CheckTexts.
-/
import Derived.Test.YthkfkcjhmhjocaaDoorKback
namespace Go.Proofs.YthkfkcjhmhjocaaDoor
open Go.ChangeShapes Go.WideShapes Go.ChangeAt Go.RowKit

theorem seal_prefix (s t r : List UInt8) (hs : s.length ≤ 65536) (ht : t.length ≤ 65536) (h : Ck.seal_ t = Ck.seal_ s ++ r) : s = t := by
  have h1 := Ck.open_seal0 s r hs
  have h2 := Ck.open_seal0 t [] ht
  rw [List.append_nil, h, h1] at h2
  exact (Prod.mk.inj h2).1
theorem bytes_inj {a b : ByteArray} (h : a.toList = b.toList) : a = b := by
  rw [toList_eq, toList_eq] at h
  exact ByteArray.ext (Array.toList_inj.1 h)

/-- what the tests of two texts come to -/
theorem ctexts_facts (S T q r : ByteArray) (ss : S.size ≤ 60) (st : T.size ≤ 60) (hq : q.data.toList = Ck.seal_ S.data.toList) (hr : r.data.toList = Ck.seal_ T.data.toList) :
    (S = T ∧ q = r) ∨ ((S.toList == T.toList) = false ∧ (q.toList == r.toList) = false ∧ (q.size ≤ r.size → ((r.extract 0 q.size).toList == q.toList) = false)) := by
  have l1 := size_len S
  have l2 := size_len T
  by_cases h : S = T
  · left
    subst h
    exact ⟨rfl, bytes_inj (by rw [toList_eq, toList_eq, hq, hr])⟩
  · right
    have hne : S.data.toList ≠ T.data.toList := fun e => h (bytes_inj (by rw [toList_eq, toList_eq, e]))
    refine ⟨?_, ?_, fun hle => ?_⟩
    · rw [beq_eq_false_iff_ne, toList_eq, toList_eq]; exact hne
    · rw [beq_eq_false_iff_ne, toList_eq, toList_eq, hq, hr]
      intro e
      exact hne (seal_prefix _ _ [] (by omega) (by omega) (by rw [e]; simp))
    · rw [beq_eq_false_iff_ne, toList_eq, toList_eq]
      intro e
      have e2 : (r.extract 0 q.size).data.toList = r.data.toList.take q.size := by
        simp [ByteArray.data_extract, List.extract_eq_take_drop]
      rw [e2, hq] at e
      refine hne (seal_prefix _ _ (r.data.toList.drop q.size) (by omega) (by omega) ?_)
      rw [← e, List.take_append_drop, hr]

set_option maxHeartbeats 1000000 in
set_option maxRecDepth 100000 in
theorem ctexts_walk (s t : ByteArray) (w : World) (hs : s.size ≤ maxLen) (ht : t.size ≤ maxLen) (hT : Tab w) :
    Calls Tryd.prog 10 #[.string s, .string t] w fun e w' => e = .returned (.bool true) ∧ Kept w w' := by
  unfold maxLen at hs ht
  go_enter Tryd.func10, Tryd.ntmps10
  go_wp2_with fail
  have ss := cut_size s 60
  have st := cut_size t 60
  simp only [Int.cast_ofNat_Int] at ss st
  generalize s.extract 0 (min (s.size : Int) 60).toNat = S at ss ⊢
  generalize t.extract 0 (min (t.size : Int) 60).toNat = T at st ⊢
  clear hs ht
  refine (seal_any S _ (by omega) hT).mono ?_
  rintro e w1 ⟨rfl, k1⟩
  have t1 := hT.kept k1
  obtain ⟨q, hq, sq, lq⟩ := name_str (Ck.seal_ S.data.toList)
  rw [hq]
  have hz1 := Vn.vsz_pos S.size
  have sq1 : 5 ≤ q.size := by rw [sq, Ck.seal_length, size_len]; omega
  have sq2 : q.size ≤ 73 := by rw [sq, Ck.seal_length, size_len]; omega
  clear hq
  go_wp2_with fail
  refine (seal_any T _ (by omega) t1).mono ?_
  rintro e w2 ⟨rfl, k2⟩
  have t2 := t1.kept k2
  obtain ⟨r, hr, sr, lr⟩ := name_str (Ck.seal_ T.data.toList)
  rw [hr]
  have hz2 := Vn.vsz_pos T.size
  have sr2 : r.size ≤ 73 := by rw [sr, Ck.seal_length, size_len]; omega
  have hfac := Lib.hid (ctexts_facts S T q r ss st lq lr)
  have h1 : Ck.open_ (q ++ r).data.toList 0 = (S.data.toList, q.size, 0) := by
    rw [ByteArray.data_append, Array.toList_append, lq, sq]
    exact Ck.open_seal0 _ _ (by rw [size_len]; omega)
  have h2 : Ck.open_ (q.extract 0 (max 0 ((q.size : Int) - 1)).toNat).data.toList 0 = ([], 0, 3) := by
    have e2 : (q.extract 0 (max 0 ((q.size : Int) - 1)).toNat).data.toList = q.data.toList.take (max 0 ((q.size : Int) - 1)).toNat := by
      simp [ByteArray.data_extract, List.extract_eq_take_drop]
    rw [e2, lq]
    exact Ck.open_cut _ _ (by rw [size_len]; omega) (by rw [← sq]; omega)
  have H1 := Lib.hid h1
  have H2 := Lib.hid h2
  clear hr sr lr sq lq h1 h2 hz1 hz2
  go_wp2_with fail
  refine (open_any _ 0 _ (by rw [ByteArray.size_append]; omega) (by omega) (by omega) t2).mono ?_
  rintro e w3 ⟨rfl, k3⟩
  have t3 := t2.kept k3
  rw [H1.out]
  unfold tups
  simp only
  rw [show str S.data.toList = .string S from by simp [str]]
  go_wp2_with fail
  refine (open_any _ 0 _ (by rw [ByteArray.size_extract]; omega) (by omega) (by omega) t3).mono ?_
  rintro e w4 ⟨rfl, k4⟩
  have t4 := t3.kept k4
  rw [H2.out]
  unfold tups
  simp only
  rw [show str [] = .string ⟨#[]⟩ from rfl]
  rcases hfac.out with ⟨rfl, rfl⟩ | ⟨f1, f2, f3⟩
  · go_wp2_with fail
    refine (fixed2_any _ t4).mono ?_
    rintro e w5 ⟨rfl, k5⟩
    go_wp2
    go_ret
    exact ⟨rfl, (((k1.trans k2).trans k3).trans k4).trans k5⟩
  · have F3 := Lib.hid f3
    clear f3
    by_cases hle : q.size ≤ r.size
    · have f4 := F3.out hle
      have f5 : ((r.extract 0 q.size).toList != q.toList) = true := by simp [bne, f4]
      go_wp2_with fail
      refine (fixed2_any _ t4).mono ?_
      rintro e w5 ⟨rfl, k5⟩
      go_wp2
      go_ret
      exact ⟨rfl, (((k1.trans k2).trans k3).trans k4).trans k5⟩
    · go_wp2_with fail
      refine (fixed2_any _ t4).mono ?_
      rintro e w5 ⟨rfl, k5⟩
      go_wp2
      go_ret
      exact ⟨rfl, (((k1.trans k2).trans k3).trans k4).trans k5⟩
end Go.Proofs.YthkfkcjhmhjocaaDoor
