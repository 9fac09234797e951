/-
  The document's Row, Text, Head and Records.
-/
import Derived.Test.YtenhncohhikllaaDoorWrows
import Derived.Test.YtenhncohhikllaaDoorKref3
namespace Go.Proofs.YtenhncohhikllaaDoor
open Go.ChangeShapes Go.WideShapes Go.ChangeAt Go.RowKit

/-- three answers, as the document has them -/
def tupd (x : Nat × List UInt8 × Nat) : Value := .tuple #[.int .i64 x.1, str x.2.1, .int .i64 x.2.2]
theorem tupd_mk (n : Nat) (z : List UInt8) (p : ByteArray) (e : Nat) (h : str z = .string p) : Ending.returned (.tuple #[.int .i64 (n : Int), .string p, .int .i64 (e : Int)]) = .returned (tupd (n, z, e)) := by
  unfold tupd
  rw [h]

set_option maxHeartbeats 400000 in
theorem refrow_any (r : Nat) (s : ByteArray) (w : World) (hr : r < 9223372036854775808) (hs : s.size ≤ 1000000) :
    Calls Tryd.prog 47 #[.int .i64 r, .string s] w fun e w' => e = .returned (str (Ck.seal_ (Wg.row r s.data.toList))) ∧ Kept w w' := by
  have r1 : IntKind.u64.wrap (r : Int) = (r : Int) := by rw [IntKind.wrap_u64]; omega
  go_enter Tryd.func47, Tryd.ntmps47
  go_wp2_with fail
  refine (refput_any r _ (by omega) (by omega)).mono ?_
  rintro e w1 ⟨rfl, k1⟩
  rw [Int.toNat_natCast]
  obtain ⟨p, hp, sp, lp⟩ := name_str (Vn.vput r)
  rw [hp]
  have hz := Wg.vsz_le r
  rw [Vn.vput_length] at sp
  have Lp := Lib.hid lp
  clear hp lp
  go_wp2_with fail
  refine (refseal_any (p ++ s) _ (by rw [ByteArray.size_append]; omega)).mono ?_
  rintro e w2 ⟨rfl, k2⟩
  have e2 : (p ++ s).data.toList = Wg.row r s.data.toList := by
    unfold Wg.row
    rw [← Lp.out]
    simp
  rw [e2]
  unfold str
  go_wp2
  go_ret
  exact ⟨rfl, k1.trans k2⟩

set_option maxHeartbeats 2000000 in
set_option maxRecDepth 100000 in
theorem reftextl_any (r : Nat) (v : Value) (l : List (List UInt8)) (w : World) (hv : Strs w v l) (hr : r < 9223372036854775808) (hn : l.length ≤ 1000000) (hl : ∀ x ∈ l, x.length ≤ 65536) :
    Calls Tryd.prog 42 #[.int .i64 r, v] w fun e w' => e = .returned (str (Wg.text r l)) ∧ Kept w w' := by
  have HV := Lib.hid hv
  have HLen := Lib.hid hl
  obtain ⟨a, cap, rfl, hc1, hc2, _⟩ := hv
  unfold maxLen at hc2
  clear hl
  obtain ⟨n, hnn⟩ : ∃ n, n = l.length := ⟨_, rfl⟩
  rw [← hnn] at hc1 hn HV ⊢
  have HN := Lib.hid hnn
  clear hnn
  go_enter Tryd.func42, Tryd.ntmps42
  go_wp2
  go_loopw [5, 6] (fun t i wr => ∃ (k : Nat) (P : ByteArray), k ≤ n ∧ i = .int .i64 k ∧ t = .string P ∧ P.size ≤ 65558 * k ∧ Hid (P.data.toList = Wg.text r (l.take k)) ∧ Hid (Kept w wr)) (fun _ i _ => n - (intOf i).toNat)
  case atStart => exact ⟨0, ⟨#[]⟩, Nat.zero_le _, rfl, rfl, Nat.le_refl _, Lib.hid rfl, Lib.hid (Kept.refl w)⟩
  case round =>
    obtain ⟨k, P, hk, rfl, rfl, hP, hPt, kr⟩ := hrel
    rename_i wr
    by_cases hlt : k < n
    · have hkl : k < l.length := by rw [← HN.out]; exact hlt
      obtain ⟨a', cap', e, _, _, h3⟩ := HV.out
      cases e
      rcases h3 with h3 | ⟨g, off, rfl, hg, hc⟩
      · subst h3
        cases hkl
      · obtain ⟨p, hp, _, lp⟩ := name_str l[k]
        have hc0 := (Below.cell kr.out (p := ⟨g, off + k, none⟩) hg).trans (hc k _ (List.getElem?_eq_getElem hkl))
        rw [hp] at hc0
        have hps : p.size ≤ 65536 := by rw [← size_len, lp]; exact HLen.out _ (List.getElem_mem hkl)
        have CS := Lib.hid (refrow_any r p wr hr (by omega))
        rw [lp] at CS
        obtain ⟨q, hq, sq, lq⟩ := name_str (Ck.seal_ (Wg.row r l[k]))
        rw [hq] at CS
        have hqs : q.size ≤ 65558 := by
          have h1 := Wg.seal_row_le r l[k]
          have h2 := HLen.out _ (List.getElem_mem hkl)
          omega
        have hql : Hid ((P ++ q).data.toList = Wg.text r (l.take (k + 1))) := Lib.hid (by rw [Wg.text_take_succ r l k hkl, ByteArray.data_append, Array.toList_append, hPt.out, lq])
        have hpq : (P ++ q).size ≤ 65558 * (k + 1) := by rw [ByteArray.size_append]; omega
        clear hp lp hq sq lq hc
        go_wp2_with fail
        refine CS.out.mono ?_
        rintro e w2 ⟨rfl, k2⟩
        have KR2 := Lib.hid (kr.out.trans k2)
        clear k2
        go_wp2
        go_roundw
        case rel => exact ⟨k + 1, P ++ q, by omega, by go_num, rfl, hpq, hql, KR2⟩
        case measure => simp [intOf]; omega
    · have hkk : k = n := by omega
      have e : l.take k = l := by rw [hkk, HN.out, List.take_length]
      rw [e] at hPt
      subst hkk
      go_wp2
      go_ret
      exact ⟨by rw [← hPt.out]; rfl, kr.out⟩

set_option maxHeartbeats 1000000 in
theorem refhead_any (s : ByteArray) (w : World) (hs : s.size ≤ 100000) :
    Calls Tryd.prog 40 #[.string s] w fun e w' => e = .returned (tupd (Wg.head s.data.toList)) ∧ Kept w w' := by
  have HQ : Hid (Wg.head s.data.toList = if s.data.toList = [] then (0, [], 0) else if (Ck.open_ s.data.toList 0).2.2 ≠ 0 then (0, [], (Ck.open_ s.data.toList 0).2.2) else if (Ck.open_ s.data.toList 0).2.1 < s.data.toList.length then (0, [], 4) else
    if (vget (Ck.open_ s.data.toList 0).1 0).2.2 ≠ 0 then (0, [], (vget (Ck.open_ s.data.toList 0).1 0).2.2) else if 1099511627776 < (vget (Ck.open_ s.data.toList 0).1 0).1 then (0, [], 4) else
    ((vget (Ck.open_ s.data.toList 0).1 0).1, (Ck.open_ s.data.toList 0).1.drop (vget (Ck.open_ s.data.toList 0).1 0).2.1, 0)) := rfl
  have Hl := Lib.hid (size_len s)
  generalize Wg.head s.data.toList = q at HQ ⊢
  by_cases h0 : s.data.toList = []
  · obtain rfl : s = ⟨#[]⟩ := by
      apply ByteArray.ext
      apply Array.toList_inj.1
      simpa using h0
    rw [HQ.out, if_pos rfl]
    unfold tupd str
    go_enter Tryd.func40, Tryd.ntmps40
    go_wp2
    go_ret3
    exact ⟨rfl, Kept.refl w⟩
  · have hE := str_ne s h0
    have hL := Ck.open_le s.data.toList 0
    have H0 := Lib.hid h0
    clear h0
    go_enter Tryd.func40, Tryd.ntmps40
    go_wp2_with fail
    refine (refopen_any s 0 _ hs (by decide) (by decide)).mono ?_
    rintro e w1 ⟨rfl, k1⟩
    generalize Ck.open_ s.data.toList 0 = o at HQ hL ⊢
    obtain ⟨x, t, e0⟩ := o
    obtain ⟨l1, l2, l3⟩ := hL
    simp only at l1 l2 l3
    rw [Hl.out] at l2
    obtain ⟨p, hp, sp, lp⟩ := name_str x
    rw [← sp] at l3
    have CS := Lib.hid (refget_any p 0 w1 (by omega) (by decide) (by decide))
    have hv := vget_le p.data.toList 0
    rw [show p.data.toList = x from lp] at CS hv
    have Lp := Lib.hid lp
    clear lp
    unfold tups
    simp only
    rw [hp]
    by_cases b1 : e0 = 0
    · subst b1
      by_cases b2 : t < s.size
      · go_wp2
        go_ret3
        refine ⟨?_, k1⟩
        rw [HQ.out, if_neg H0.out, if_neg (by simp), if_pos (by rw [Hl.out]; exact b2)]
        rfl
      · have HQ2 : Hid (q = if (vget x 0).2.2 ≠ 0 then (0, [], (vget x 0).2.2) else if 1099511627776 < (vget x 0).1 then (0, [], 4) else ((vget x 0).1, x.drop (vget x 0).2.1, 0)) := by
          show _ = _
          rw [HQ.out, if_neg H0.out, if_neg (by simp), if_neg (by rw [Hl.out]; exact b2)]
        clear HQ
        generalize vget x 0 = y at CS HQ2 hv
        obtain ⟨n, z, e1⟩ := y
        obtain ⟨m1, m2, m3⟩ := hv
        simp only at m1 m2 m3
        rw [← sp] at m2
        clear sp
        have b2' : ¬ (t : Int) < s.size := by omega
        go_wp2_with fail
        refine CS.out.mono ?_
        rintro e w2 ⟨rfl, k2⟩
        unfold tup
        simp only
        by_cases b3 : e1 = 0
        · subst b3
          by_cases b4 : 1099511627776 < n
          · go_wp2
            go_ret3
            refine ⟨?_, k1.trans k2⟩
            rw [HQ2.out, if_neg (by simp), if_pos b4]
            rfl
          · have r1 : IntKind.i64.wrap (n : Int) = (n : Int) := by rw [IntKind.wrap_i64]; omega
            go_wp2_with fail
            go_quiet (fail)
            go_wp2
            go_ret3
            refine ⟨?_, below_drewN (k1.trans k2) _⟩
            rw [HQ2.out, if_neg (by simp), if_neg b4]
            have e9 : p.extract z p.size = ⟨(x.drop z).toArray⟩ := by
              apply ByteArray.ext
              apply Array.toList_inj.1
              rw [← Lp.out]
              simp [ByteArray.data_extract, List.take_of_length_le]
            unfold tupd str
            simp [e9]
        · go_wp2
          go_ret3
          refine ⟨?_, k1.trans k2⟩
          rw [HQ2.out, if_pos b3]
          rfl
    · go_wp2
      go_ret3
      refine ⟨?_, k1⟩
      rw [HQ.out, if_neg H0.out, if_pos b1]
      rfl

theorem Tx.emptyd (w : World) : Tx (w.alloc (.cells #[] 9)) w.heap.size (.slice (some ⟨w.heap.size, 0, none⟩) 0 0) [] :=
  ⟨rfl, by simp, .inr ⟨w.heap.size, 0, 0, #[], rfl, Nat.le_refl _, Nat.zero_le _, Nat.le_refl _, heap_alloc_new w _, Nat.le_refl _, by simp⟩⟩
set_option maxHeartbeats 2000000 in
set_option maxRecDepth 100000 in
theorem refrecs_any (s : ByteArray) (r : Nat) (w : World) (hs : s.size ≤ 100000) (hr : r < 9223372036854775808) :
    Calls Tryd.prog 41 #[.string s, .int .i64 r] w fun e w' => ∃ v, e = .returned v ∧ Tx w' w.heap.size v (Wg.recs s.data.toList r) ∧ Kept w w' := by
  have HA := Lib.hid (Wg.all_le s.data.toList)
  have CR := Lib.hid (refall_any s (w.alloc (.cells #[] 9)) hs)
  have HP : Hid (Wg.recs s.data.toList r = Wg.pick r (Ck.all_ s.data.toList).1) := rfl
  have hsz : s.data.toList.length ≤ 100000 := by rw [size_len]; exact hs
  have r1 : IntKind.u64.wrap (r : Int) = (r : Int) := by rw [IntKind.wrap_u64]; omega
  generalize Wg.recs s.data.toList r = out at HP ⊢
  generalize (Ck.all_ s.data.toList).2 = ae at CR
  generalize (Ck.all_ s.data.toList).1 = rows at HA HP CR
  have hn : rows.length ≤ 100000 := Nat.le_trans HA.out.1 hsz
  clear hsz
  go_enter Tryd.func41, Tryd.ntmps41
  go_wp2_with fail
  refine CR.out.mono ?_
  rintro e w1 ⟨vr, rfl, h, k1⟩
  obtain ⟨ar, cr, rfl⟩ := h.tx.form
  have H := Lib.hid h.tx
  have K1 : Hid (Kept w w1) := Lib.hid (((Kept.refl w).alloc _).trans k1)
  have X1 := Lib.hid ((Tx.emptyd w).kept k1)
  clear h k1 CR
  go_wp2
  go_loopw [5, 8, 9, 10, 11] (fun v i _ _ _ wr => ∃ (k : Nat) (l : List (List UInt8)), k ≤ rows.length ∧ i = .int .i64 k ∧ l.length ≤ k ∧ Hid (Tx wr w.heap.size v l) ∧ Hid (Tx wr w.heap.size (.slice ar rows.length cr) rows ∧ RApart v (.slice ar rows.length cr)) ∧ Hid (Kept w wr) ∧ Hid (out = l ++ Wg.pick r (rows.drop k))) (fun _ i _ _ _ _ => rows.length - (intOf i).toNat)
  case atStart => exact ⟨0, [], Nat.zero_le _, rfl, Nat.zero_le _, X1, Lib.hid ⟨H.out.mono (by rw [World.size_alloc]; omega), fun i e1 e2 => by
    have e3 : w.heap.size = i := by simpa [Value.ownBlock] using e1
    have := (H.out.blk e2).1
    rw [World.size_alloc] at this
    omega⟩, K1, HP⟩
  case round =>
    obtain ⟨k, l, hk, rfl, hl, hx, hrw, kr, ho⟩ := hrel
    rename_i wr
    obtain ⟨av, cv, rfl⟩ := hx.out.form
    by_cases hlt : k < rows.length
    · obtain ⟨g, off, rfl, hc1, hc2, _, p, hp, lp⟩ := hrw.out.1.at hlt
      unfold maxLen at hc2
      have hpx := HA.out.2 _ (List.getElem_mem hlt)
      rw [← lp, size_len] at hpx
      have HPK : Hid (Wg.pick r (rows.drop k) = if (vget p.data.toList 0).2.2 ≠ 0 then [] else if (vget p.data.toList 0).1 = r then p.data.toList.drop (vget p.data.toList 0).2.1 :: Wg.pick r (rows.drop (k + 1)) else Wg.pick r (rows.drop (k + 1))) := Lib.hid (by
        rw [List.drop_eq_getElem_cons hlt, Wg.pick, ← lp])
      have CG := Lib.hid (refget_any p 0 wr (by omega) (by decide) (by decide))
      have hv := vget_le p.data.toList 0
      rw [size_len] at hv
      have hex : ∀ z : Nat, z ≤ p.size → str (p.data.toList.drop z) = .string (p.extract z p.size) := fun z _ => by
        have : p.extract z p.size = ⟨(p.data.toList.drop z).toArray⟩ := by
          apply ByteArray.ext
          apply Array.toList_inj.1
          simp [ByteArray.data_extract, List.take_of_length_le]
        rw [this]
        rfl
      have HEX := Lib.hid hex
      have hgl := World.block_lt_of_cell? wr _ hp
      clear lp hex
      generalize p.data.toList = x at HPK CG hv HEX
      generalize vget x 0 = y at HPK CG hv
      obtain ⟨n, z, e1⟩ := y
      obtain ⟨m1, m2, m3⟩ := hv
      simp only at m1 m2 m3 HPK
      go_wp2_with fail
      refine CG.out.mono ?_
      rintro e w2 ⟨rfl, k2⟩
      unfold tup
      simp only
      have hp2 := (Below.cell k2 (p := ⟨g, off + k, none⟩) hgl).trans hp
      have HX2 := Lib.hid (hx.out.kept k2)
      have HR2 := Lib.hid (And.intro (hrw.out.1.kept k2) hrw.out.2)
      have KR2 := Lib.hid (kr.out.trans k2)
      clear k2 CG
      by_cases b1 : e1 = 0
      · subst b1
        by_cases b2 : n = r
        · subst b2
          have hi : Hid (Wg.pick n (rows.drop k) = x.drop z :: Wg.pick n (rows.drop (k + 1))) := Lib.hid (by rw [HPK.out, if_neg (by simp), if_pos rfl])
          have hq := HEX.out z m2
          generalize p.extract z p.size = q at hq ⊢
          have HQ := Lib.hid hq
          have q5 := (Kept.refl w2).alloc (.cells #[.string (p.extract z p.size)] 9)
          have HX5 := Lib.hid (OffV.kept HX2.out q5)
          have HB5 : Hid (w.heap.size ≤ (w2.alloc (.cells #[.string (p.extract z p.size)] 9)).heap.size) := Lib.hid (by have := KR2.out.size; rw [World.size_alloc]; omega)
          have hl1 : l.length + 1 ≤ 1000001 := by omega
          clear hq
          go_wp2_with (at_builtin; refine wp_rapp rowS (base := w.heap.size) (v := .slice av l.length cv) (n := l.length) (m := 1) (xs := l.map str) (ys := [.string (p.extract z p.size)]) HX5.out (Src.one w2 [.string (p.extract z p.size)] 9 rfl (one_one _)) hl1 HB5.out rfl _ _ rfl rfl rfl ?_)
          intro v6 w6 o6 g6 b6 n6
          have o7 : Tx w6 w.heap.size v6 (l ++ [x.drop z]) := by
            unfold Tx
            rw [List.length_append, List.map_append, List.map_singleton, HEX.out z m2]
            exact o6
          have K6 : Hid (Kept w w6) := Lib.hid (But.after (KR2.out.trans q5) b6 fun i hi e => by have := (HX5.out.blk e).1; omega)
          have HR6 : Hid (Tx w6 w.heap.size (.slice (some ⟨g, off, none⟩) rows.length cr) rows ∧ RApart v6 (.slice (some ⟨g, off, none⟩) rows.length cr)) := Lib.hid ⟨OffV.but (HR2.out.1.kept q5) b6 fun i e1 e2 => HR2.out.2 i e2 e1, HR2.out.2.went g6 (HR2.out.1.kept q5)⟩
          have O7 := Lib.hid o7
          obtain ⟨a6, c6, rfl⟩ := o7.form
          clear o6 g6 b6 n6 o7 q5 HX5 HB5
          go_wp2
          go_roundw
          case rel => exact ⟨k + 1, l ++ [x.drop z], by omega, by go_num, by rw [List.length_append, List.length_singleton]; omega, O7, HR6, K6, Lib.hid (by rw [ho.out, hi.out, List.append_assoc]; rfl)⟩
          case measure => simp [intOf]; omega
        · have hi : Hid (Wg.pick r (rows.drop k) = Wg.pick r (rows.drop (k + 1))) := Lib.hid (by rw [HPK.out, if_neg (by simp), if_neg b2])
          have b2' : ¬ (n : Int) = r := by omega
          go_wp2
          go_roundw
          case rel => exact ⟨k + 1, l, by omega, by go_num, by omega, HX2, HR2, KR2, Lib.hid (by rw [ho.out, hi.out])⟩
          case measure => simp [intOf]; omega
      · have hi : Hid (Wg.pick r (rows.drop k) = []) := Lib.hid (by rw [HPK.out, if_pos b1])
        go_wp2
        go_ret
        exact ⟨_, rfl, by rw [ho.out, hi.out, List.append_nil]; exact HX2.out, KR2.out⟩
    · have hkk : k = rows.length := by omega
      have hi : Hid (Wg.pick r (rows.drop k) = []) := Lib.hid (by rw [hkk, List.drop_length]; rfl)
      subst hkk
      go_wp2
      go_ret
      exact ⟨_, rfl, by rw [ho.out, hi.out, List.append_nil]; exact hx.out, kr.out⟩
end Go.Proofs.YtenhncohhikllaaDoor
