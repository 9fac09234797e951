/-
  The walk of Open.
-/
import Derived.Test.YtenhncohhikllaaDoorWchk
namespace Go.Proofs.YtenhncohhikllaaDoor
open Go.ChangeShapes Go.WideShapes Go.ChangeAt Go.RowKit

namespace Wg
theorem open_at_len (l : List UInt8) (a : Nat) (ha : a ≤ l.length) (h : (Ck.open_ l a).2.2 = 0) : a + (Ck.seal_ (Ck.open_ l a).1).length = (Ck.open_ l a).2.1 := by
  have hs := Ck.open_at l a ha
  have hg := Ck.open_got (l.drop a)
  rw [hs] at h ⊢
  generalize Ck.open_ (l.drop a) 0 = c at h hg ⊢
  obtain ⟨x, t, e⟩ := c
  simp only at hg
  by_cases he : e = 0
  · subst he
    simp only [Ck.sh, if_true] at h ⊢
    obtain ⟨h1, h2, h3, h4⟩ := hg rfl
    rw [← h4, List.length_take]
    omega
  · simp only [Ck.sh, if_neg he] at h
    exact absurd h he
theorem allF_cat : ∀ (f : Nat) (l : List UInt8) (a : Nat), a ≤ l.length → (Ck.cat (Ck.allF f l a).1).length + a ≤ l.length
  | 0, l, a, h => by show 0 + a ≤ _; omega
  | f + 1, l, a, h => by
    by_cases he : (Ck.open_ l a).2.2 = 0
    · obtain ⟨g1, g2, g3, g4⟩ := Ck.open_at_got l a h he
      rw [Ck.allF_step f l a he]
      have i1 := allF_cat f l (Ck.open_ l a).2.1 g2
      have i2 := open_at_len l a h he
      simp only [Ck.cat, List.length_append]
      omega
    · rw [Ck.allF_stop (f + 1) l a he]
      show 0 + a ≤ _
      omega
theorem pick_cat (r : Nat) : ∀ (l : List (List UInt8)), (text r (pick r l)).length ≤ (Ck.cat l).length
  | [] => Nat.le_refl _
  | y :: l => by
    have ih := pick_cat r l
    rw [pick]
    split
    · exact Nat.zero_le _
    · rename_i h0
      simp only [ne_eq, Decidable.not_not] at h0
      split
      · rename_i h1
        obtain ⟨_, _, _, h2⟩ := vput_got y (vget y 0).1 (vget y 0).2.1 (by rw [← h0])
        have e : row r (y.drop (vget y 0).2.1) = y := by
          unfold row
          rw [← h1, h2, List.take_append_drop]
        have e2 : text r (y.drop (vget y 0).2.1 :: pick r l) = Ck.seal_ (row r (y.drop (vget y 0).2.1)) ++ text r (pick r l) := rfl
        rw [e2, e, List.length_append]
        simp only [Ck.cat, List.length_append]
        omega
      · simp only [Ck.cat, List.length_append]
        omega
theorem text_recs (s : List UInt8) (r : Nat) : (text r (recs s r)).length ≤ s.length := by
  have h1 := pick_cat r (Ck.all_ s).1
  have h2 := allF_cat (s.length + 1) s 0 (Nat.zero_le _)
  unfold recs
  unfold Ck.all_ at h1 ⊢
  omega
/-- the log that files tell -/
def told (F : Dk.Fl) : St := ⟨(head (F 0).data.toList).1, (head (F 0).data.toList).2.1, recs (F 1).data.toList (head (F 0).data.toList).1⟩
/-- the files behind an Open -/
def opened (F : Dk.Fl) : Dk.Fl := fun i => if i = 1 then ba (text (told F).r (told F).l) else F i
end Wg

set_option maxHeartbeats 1000000 in
theorem logopen_bad {W : World} {base d : Nat} {K : Dk.Fl} {v : Value} {ws : List Dk.W} (w : World) (h : Dsk w base d K v ws) (hT : Tab W) (kW : Kept W w) (he : (Wg.head (nowF K ws 0).data.toList).2.2 ≠ 0) :
    Calls Tryd.prog 11 #[.pointer (some ⟨d, 0, none⟩)] w fun e w' => e = .returned (.tuple #[.pointer none, .int .i64 (Wg.head (nowF K ws 0).data.toList).2.2]) ∧ Kept w w' := by
  have hsz : (nowF K ws 0).size ≤ 65536 := h.fits _ _
  have CR := Lib.hid (read_is (t := nowF K ws 0) 0 w h (by rw [if_pos (by omega)]; rfl))
  have CS := Lib.hid fun w' (k : Kept w w') => readState_any (nowF K ws 0) w' (by omega) (hT.kept (kW.trans k))
  generalize nowF K ws 0 = F0 at he hsz CR CS ⊢
  have HL := Wg.head_le F0.data.toList
  generalize Wg.head F0.data.toList = q at he CS HL ⊢
  obtain ⟨r, st, e0⟩ := q
  obtain ⟨h1, h2, h3⟩ := HL
  simp only at he h1 h2 h3
  obtain ⟨p, hp, sp, _⟩ := name_str st
  have Hp := Lib.hid hp
  clear h hT kW hp
  go_enter Tryd.func11, Tryd.ntmps11
  go_wp2_with fail
  refine CR.out.mono ?_
  rintro e w1 ⟨rfl, k1⟩
  go_wp2_with fail
  refine (CS.out w1 k1).mono ?_
  rintro e w2 ⟨rfl, k2⟩
  unfold tupw
  simp only
  rw [Hp.out]
  go_wp2
  go_ret2
  exact ⟨rfl, k1.trans k2⟩

set_option maxHeartbeats 4000000 in
set_option maxRecDepth 100000 in
theorem logopen_any {W : World} {base d : Nat} {K : Dk.Fl} {v : Value} {ws : List Dk.W} (w : World) (h : Dsk w base d K v ws) (hl : ws.length < 1000000) (hT : Tab W) (_hW : W.heap.size ≤ base) (kW : Kept W w) (he : (Wg.head (nowF K ws 0).data.toList).2.2 = 0) :
    Calls Tryd.prog 11 #[.pointer (some ⟨d, 0, none⟩)] w fun e w' => ∃ b lv, e = .returned (.tuple #[.pointer (some ⟨b, 0, none⟩), .int .i64 0]) ∧
      LD w' base b d (Wg.opened (nowF K ws)) (.slice none 0 0) [] (Wg.told (nowF K ws)) lv (Wg.told (nowF K ws)).l.length ∧ w.heap.size ≤ b ∧ (∀ i, lv.ownBlock = some i → w.heap.size ≤ i) ∧ But (fun i => i = d ∨ v.ownBlock = some i) w w' := by
  have hsz : (nowF K ws 0).size ≤ 65536 := h.fits _ _
  have hsz1 : (nowF K ws 1).size ≤ 65536 := h.fits _ _
  have CR := Lib.hid (read_is (t := nowF K ws 0) 0 w h (by rw [if_pos (by omega)]; rfl))
  have CS := Lib.hid fun w' (k : Kept w w') => readState_any (nowF K ws 0) w' (by omega) (hT.kept (kW.trans k))
  have CR1 := Lib.hid fun w' (k : Kept w w') => read_is (t := nowF K ws 1) 1 w' (h.kept k) (by rw [if_pos (by omega)]; rfl)
  have HL := Wg.head_le (nowF K ws 0).data.toList
  have HX : Hid (Wg.told (nowF K ws) = ⟨(Wg.head (nowF K ws 0).data.toList).1, (Wg.head (nowF K ws 0).data.toList).2.1, Wg.recs (nowF K ws 1).data.toList (Wg.head (nowF K ws 0).data.toList).1⟩) := rfl
  have HO : Hid (Wg.opened (nowF K ws) = fun i => if i = 1 then Wg.ba (Wg.text (Wg.told (nowF K ws)).r (Wg.told (nowF K ws)).l) else nowF K ws i) := rfl
  generalize Wg.head (nowF K ws 0).data.toList = q at he CS HL HX
  obtain ⟨r, st, e0⟩ := q
  obtain ⟨h1, h2, h3⟩ := HL
  simp only at he h1 h2 h3
  subst he
  have CC := Lib.hid fun w' (k : Kept w w') => readRecords_any (nowF K ws 1) r w' (by omega) (by omega) (hT.kept (kW.trans k))
  have hle := Wg.recs_le (nowF K ws 1).data.toList r
  have htl := Wg.text_recs (nowF K ws 1).data.toList r
  rw [size_len] at hle htl
  simp only at HX
  generalize hll : Wg.recs (nowF K ws 1).data.toList r = l at CC hle htl HX
  obtain ⟨hle1, hle2⟩ := hle
  have CT := Lib.hid fun w' lv (hv : Strs w' lv l) (k : Kept w w') => rowsOf_any r lv l w' hv (by omega) (by omega) hle2 (hT.kept (kW.trans k))
  generalize Wg.told (nowF K ws) = x at HX HO ⊢
  have hx := HX.out
  subst hx
  simp only at HO ⊢
  generalize Wg.opened (nowF K ws) = O at HO ⊢
  obtain ⟨p, hp, sp, _⟩ := name_str st
  have Hp := Lib.hid hp
  obtain ⟨t, ht, stt, lt⟩ := name_str (Wg.text r l)
  have HTb : Hid (t = Wg.ba (Wg.text r l)) := Lib.hid (by unfold Wg.ba; rw [← lt])
  have Ht := Lib.hid ht
  have H := Lib.hid h
  have HLE2 := Lib.hid hle2
  clear h hT kW hp ht HX hll lt hle2
  go_enter Tryd.func11, Tryd.ntmps11
  go_wp2_with fail
  refine CR.out.mono ?_
  rintro e w1 ⟨rfl, k1⟩
  go_wp2_with fail
  refine (CS.out w1 k1).mono ?_
  rintro e w2 ⟨rfl, k2⟩
  have K2 := Lib.hid (k1.trans k2)
  clear k1 k2 CR CS
  unfold tupw
  simp only
  rw [Hp.out]
  go_wp2_with fail
  refine (CR1.out w2 K2.out).mono ?_
  rintro e w3 ⟨rfl, k3⟩
  have K3 := Lib.hid (K2.out.trans k3)
  clear k3 CR1
  go_wp2_with fail
  refine (CC.out w3 K3.out).mono ?_
  rintro e w4 ⟨lv, rfl, x4, k4⟩
  have K4 := Lib.hid (K3.out.trans k4)
  have X4 := Lib.hid x4
  clear k4 x4 CC
  go_wp2_with fail
  refine (CT.out w4 lv X4.out.strs K4.out).mono ?_
  rintro e w5 ⟨rfl, k5⟩
  have K5 := Lib.hid (K4.out.trans k5)
  have X5 := Lib.hid (X4.out.kept k5)
  have D5 := Lib.hid (H.out.kept K5.out)
  have X5m : Hid (∀ i, lv.ownBlock = some i → w.heap.size ≤ i) := Lib.hid fun i e => Nat.le_trans K3.out.size (X4.out.blk e).1
  clear k5 CT
  rw [Ht.out]
  obtain ⟨a, cap, rfl⟩ := X5.out.form
  have hst : st.length ≤ 65536 := h2
  have hd : d < w.heap.size := heap_lt H.out.blk
  have hv : ∀ i, v.ownBlock = some i → i < w.heap.size := fun i e => by
    obtain ⟨_, cur, hg⟩ := H.out.row.blk e
    exact heap_lt hg
  have HD := Lib.hid hd
  have HV := Lib.hid hv
  clear hd hv
  by_cases hEq : t = nowF K ws 1
  · have hE : (t.toList != (nowF K ws 1).toList) = false := by rw [hEq]; simp
    have hE' : (t.toList == (nowF K ws 1).toList) = true := by rw [hEq]; simp
    have HEq := Lib.hid hEq
    clear hEq
    go_wp2_with fail
    refine (sync_is w5 D5.out rfl).mono ?_
    rintro e w6 ⟨rfl, d6, f6⟩
    have X6 : Hid (Tx w6 w3.heap.size (.slice a l.length cap) l) := Lib.hid (X5.out.but f6 fun i e1 e2 => by
      have := X5m.out i e1
      rcases e2 with rfl | e2
      · have := HD.out; omega
      · have := HV.out i e2; omega)
    have D6 := Lib.hid d6
    have F6 : Hid (But (fun i => i = d ∨ v.ownBlock = some i) w w6) := Lib.hid (K5.out.but.trans f6 fun _ _ h => h)
    clear d6 f6 hE hE'
    go_wp2
    go_ret2
    refine ⟨w6.heap.size, .slice a l.length cap, rfl, ⟨?_, ⟨(by unfold lcells; simp only; rw [Hp.out]; exact heap_alloc_new _ _), ?_, ?_, ⟨?_, hst, ?_, HLE2.out, ?_⟩⟩, rapart_nil _⟩, F6.out.size, X5m.out, F6.out.trans ((Kept.refl w6).alloc _).but fun _ _ h => h⟩
    · have e : nowF K ws = O := by
        rw [HO.out]
        funext i
        by_cases hi : i = 1
        · rw [if_pos hi, ← HTb.out, HEq.out, hi]
        · rw [if_neg hi]
      rw [← e]
      exact D6.out.kept ((Kept.refl w6).alloc _)
    · have := H.out.low; have := HD.out; have := F6.out.size; omega
    · exact (X6.out.kept ((Kept.refl w6).alloc _)).mono (by have := H.out.low; have := HD.out; have := K3.out.size; omega)
    · show r ≤ _; omega
    · show l.length ≤ _; omega
    · show l.length ≤ _; omega
  · have hE : (t.toList != (nowF K ws 1).toList) = true := by
      rw [bne_iff_ne, toList_eq, toList_eq]
      intro e
      exact hEq (by apply ByteArray.ext; exact Array.toList_inj.1 e)
    have hE' : (t.toList == (nowF K ws 1).toList) = false := by simpa [bne] using hE
    clear hEq
    go_wp2_with fail
    refine (replace_is 1 t 0 (ws ++ [⟨1, t, true⟩]) w5 D5.out hl (by unfold maxLen; omega) (by unfold Dk.ansR; rw [if_pos (by omega), if_pos (by omega)]) (by rw [if_pos rfl, more_whole]; rfl)).mono ?_
    rintro e w6 ⟨rfl, v6, d6, t6, f6⟩
    have X6 : Hid (Tx w6 w3.heap.size (.slice a l.length cap) l) := Lib.hid (X5.out.but f6 fun i e1 e2 => by
      have := X5m.out i e1
      rcases e2 with rfl | e2
      · have := HD.out; omega
      · have := HV.out i e2; omega)
    have D6 := Lib.hid d6
    have T6 := Lib.hid t6
    have F6 : Hid (But (fun i => i = d ∨ v.ownBlock = some i) w w6) := Lib.hid (K5.out.but.trans f6 fun _ _ h => h)
    clear d6 f6 t6 hE hE'
    go_wp2_with fail
    refine (sync_is w6 D6.out rfl).mono ?_
    rintro e w7 ⟨rfl, d7, f7⟩
    have X7 : Hid (Tx w7 w3.heap.size (.slice a l.length cap) l) := Lib.hid (X6.out.but f7 fun i e1 e2 => by
      have := X5m.out i e1
      rcases e2 with rfl | e2
      · have := HD.out; omega
      · rcases T6.out with t | t
        · rw [t] at e2
          have := HV.out i e2; omega
        · have := t i e2
          obtain ⟨_, cur, hg⟩ := X5.out.blk e1
          have := heap_lt hg
          omega)
    have D7 := Lib.hid d7
    have F7 : Hid (But (fun i => i = d ∨ v.ownBlock = some i) w w7) := Lib.hid (F6.out.trans f7 fun i hi e2 => by
      rcases e2 with e2 | e2
      · exact .inl e2
      · rcases T6.out with t | t
        · rw [t] at e2
          exact .inr e2
        · have := t i e2
          have := K5.out.size
          omega)
    clear d7 f7
    go_wp2
    go_ret2
    refine ⟨w7.heap.size, .slice a l.length cap, rfl, ⟨?_, ⟨(by unfold lcells; simp only; rw [Hp.out]; exact heap_alloc_new _ _), ?_, ?_, ⟨?_, hst, ?_, HLE2.out, ?_⟩⟩, rapart_nil _⟩, F7.out.size, X5m.out, F7.out.trans ((Kept.refl w7).alloc _).but fun _ _ h => h⟩
    · have e : nowF K (ws ++ [⟨1, t, true⟩]) = O := by
        rw [HO.out, nowF, Dk.now_snoc, Dk.put_all]
        funext i
        simp only [if_true]
        by_cases hi : i = 1
        · rw [if_pos hi, if_pos hi, ← HTb.out]
        · rw [if_neg hi, if_neg hi]
      rw [← e]
      exact D7.out.kept ((Kept.refl w7).alloc _)
    · have := H.out.low; have := HD.out; have := F7.out.size; omega
    · exact (X7.out.kept ((Kept.refl w7).alloc _)).mono (by have := H.out.low; have := HD.out; have := K3.out.size; omega)
    · show r ≤ _; omega
    · show l.length ≤ _; omega
    · show l.length ≤ _; omega
end Go.Proofs.YtenhncohhikllaaDoor
