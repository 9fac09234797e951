/-
  The walk of the document's Open; what lies beside the two twins.
-/
import Derived.Test.YtenhncohhikllaaDoorWref2
namespace Go.Proofs.YtenhncohhikllaaDoor
open Go.ChangeShapes Go.WideShapes Go.ChangeAt Go.RowKit

theorem rread_is {b base : Nat} {K : Dk.Fl} {v : Value} {ws : List Dk.W} (f : Int) (t : ByteArray) (w : World) (h : RD w base b K v ws) (ht : (if 0 ≤ f ∧ f < 4 then Dk.after K ws (Dk.total ws) f.toNat else ⟨#[]⟩) = t) :
    Calls Tryd.prog 28 #[.pointer (some ⟨b, 0, none⟩), .int .i64 f] w fun e w' => e = .returned (.string t) ∧ Kept w w' := ht ▸ rread_any f w h
set_option maxHeartbeats 1000000 in
theorem rlopen_bad {base d : Nat} {K : Dk.Fl} {v : Value} {ws : List Dk.W} (w : World) (h : RD w base d K v ws) (he : (Wg.head (nowF K ws 0).data.toList).2.2 ≠ 0) :
    Calls Tryd.prog 12 #[.pointer (some ⟨d, 0, none⟩)] w fun e w' => e = .returned (.tuple #[.pointer none, .int .i64 (Wg.head (nowF K ws 0).data.toList).2.2]) ∧ Kept w w' := by
  have hsz : (nowF K ws 0).size ≤ 65536 := h.fits _ _
  have CR := Lib.hid (rread_is (t := nowF K ws 0) 0 w h (by rw [if_pos (by omega)]; rfl))
  have CS := Lib.hid fun w' (_ : Kept w w') => refhead_any (nowF K ws 0) w' (by omega)
  generalize nowF K ws 0 = F0 at he hsz CR CS ⊢
  have HL := Wg.head_le F0.data.toList
  generalize Wg.head F0.data.toList = q at he CS HL ⊢
  obtain ⟨r, st, e0⟩ := q
  obtain ⟨h1, h2, h3⟩ := HL
  simp only at he h1 h2 h3
  obtain ⟨p, hp, sp, _⟩ := name_str st
  have Hp := Lib.hid hp
  clear h hp
  go_enter Tryd.func12, Tryd.ntmps12
  go_wp2_with fail
  refine CR.out.mono ?_
  rintro e w1 ⟨rfl, k1⟩
  go_wp2_with fail
  refine (CS.out w1 k1).mono ?_
  rintro e w2 ⟨rfl, k2⟩
  unfold tupd
  simp only
  rw [Hp.out]
  go_wp2
  go_ret2
  exact ⟨rfl, k1.trans k2⟩

set_option maxHeartbeats 4000000 in
set_option maxRecDepth 100000 in
theorem rlopen_any {base d : Nat} {K : Dk.Fl} {v : Value} {ws : List Dk.W} (w : World) (h : RD w base d K v ws) (hl : ws.length < 1000000) (he : (Wg.head (nowF K ws 0).data.toList).2.2 = 0) :
    Calls Tryd.prog 12 #[.pointer (some ⟨d, 0, none⟩)] w fun e w' => ∃ b lv, e = .returned (.tuple #[.pointer (some ⟨b, 0, none⟩), .int .i64 0]) ∧
      RP w' base b d (Wg.opened (nowF K ws)) (.slice none 0 0) [] (Wg.told (nowF K ws)) lv (Wg.told (nowF K ws)).l.length ∧ w.heap.size ≤ b ∧ (∀ i, lv.ownBlock = some i → w.heap.size ≤ i) ∧ But (fun i => i = d ∨ v.ownBlock = some i) w w' := by
  have hsz : (nowF K ws 0).size ≤ 65536 := h.fits _ _
  have hsz1 : (nowF K ws 1).size ≤ 65536 := h.fits _ _
  have CR := Lib.hid (rread_is (t := nowF K ws 0) 0 w h (by rw [if_pos (by omega)]; rfl))
  have CS := Lib.hid fun w' (_ : Kept w w') => refhead_any (nowF K ws 0) w' (by omega)
  have CR1 := Lib.hid fun w' (k : Kept w w') => rread_is (t := nowF K ws 1) 1 w' (h.kept k) (by rw [if_pos (by omega)]; rfl)
  have HL := Wg.head_le (nowF K ws 0).data.toList
  have HX : Hid (Wg.told (nowF K ws) = ⟨(Wg.head (nowF K ws 0).data.toList).1, (Wg.head (nowF K ws 0).data.toList).2.1, Wg.recs (nowF K ws 1).data.toList (Wg.head (nowF K ws 0).data.toList).1⟩) := rfl
  have HO : Hid (Wg.opened (nowF K ws) = fun i => if i = 1 then Wg.ba (Wg.text (Wg.told (nowF K ws)).r (Wg.told (nowF K ws)).l) else nowF K ws i) := rfl
  generalize Wg.head (nowF K ws 0).data.toList = q at he CS HL HX
  obtain ⟨r, st, e0⟩ := q
  obtain ⟨h1, h2, h3⟩ := HL
  simp only at he h1 h2 h3
  subst he
  have CC := Lib.hid fun w' (_ : Kept w w') => refrecs_any (nowF K ws 1) r w' (by omega) (by omega)
  have hle := Wg.recs_le (nowF K ws 1).data.toList r
  have htl := Wg.text_recs (nowF K ws 1).data.toList r
  rw [size_len] at hle htl
  simp only at HX
  generalize hll : Wg.recs (nowF K ws 1).data.toList r = l at CC hle htl HX
  obtain ⟨hle1, hle2⟩ := hle
  have CT := Lib.hid fun w' lv (hv : Strs w' lv l) => reftextl_any r lv l w' hv (by omega) (by omega) hle2
  generalize Wg.told (nowF K ws) = x at HX HO ⊢
  have hx := HX.out
  subst hx
  simp only at HO ⊢
  generalize Wg.opened (nowF K ws) = O at HO ⊢
  obtain ⟨p, hp, sp, _⟩ := name_str st
  have Hp := Lib.hid hp
  obtain ⟨t, ht, stt, lt⟩ := name_str (Wg.text r l)
  have HTb : Hid (t = Wg.ba (Wg.text r l)) := Lib.hid (by unfold Wg.ba; rw [← lt])
  have Ht := Lib.hid ht
  have H := Lib.hid h
  have HLE2 := Lib.hid hle2
  clear h hp ht HX hll lt hle2
  go_enter Tryd.func12, Tryd.ntmps12
  go_wp2_with fail
  refine CR.out.mono ?_
  rintro e w1 ⟨rfl, k1⟩
  go_wp2_with fail
  refine (CS.out w1 k1).mono ?_
  rintro e w2 ⟨rfl, k2⟩
  have K2 := Lib.hid (k1.trans k2)
  clear k1 k2 CR CS
  unfold tupd
  simp only
  rw [Hp.out]
  go_wp2_with fail
  refine (CR1.out w2 K2.out).mono ?_
  rintro e w3 ⟨rfl, k3⟩
  have K3 := Lib.hid (K2.out.trans k3)
  clear k3
  go_wp2_with fail
  refine (CC.out w3 K3.out).mono ?_
  rintro e w4 ⟨lv, rfl, x4, k4⟩
  obtain ⟨a, cap, rfl⟩ := x4.form
  have ka4 := (Kept.refl w4).alloc (.cells (rlcells d ⟨r, st, l⟩ (.slice a l.length cap) 0) 73)
  have hlog4 : RL (w4.alloc (.cells (rlcells d ⟨r, st, l⟩ (.slice a l.length cap) 0) 73)) base w4.heap.size d ⟨r, st, l⟩ (.slice a l.length cap) 0 :=
    ⟨heap_alloc_new w4 _, by have := H.out.low; have := heap_lt H.out.blk; have := K3.out.size; have := k4.size; omega, (x4.kept ka4).mono (by have := H.out.low; have := heap_lt H.out.blk; have := K3.out.size; omega), ⟨by show r ≤ _; omega, h2, by show l.length ≤ _; omega, HLE2.out, Nat.zero_le _⟩⟩
  have X4m : Hid (∀ i, (Value.slice a l.length cap).ownBlock = some i → w.heap.size ≤ i) := Lib.hid fun i e => Nat.le_trans K3.out.size (x4.blk e).1
  have hbn : Hid (w.heap.size ≤ w4.heap.size) := Lib.hid (Nat.le_trans K3.out.size k4.size)
  have erl : rlcells d ⟨r, st, l⟩ (.slice a l.length cap) 0 = #[.pointer (some ⟨d, 0, none⟩), .int .i64 r, .string p, .slice a l.length cap, .int .i64 0] := by
    unfold rlcells
    simp only
    rw [Hp.out]
    rfl
  have K5 : Hid (Kept w (w4.alloc (.cells (rlcells d ⟨r, st, l⟩ (.slice a l.length cap) 0) 73))) := Lib.hid ((K3.out.trans k4).trans ka4)
  rw [erl] at hlog4 K5
  obtain ⟨c0, c1, c2, c3, c4, cf⟩ := rlcell hlog4.blk
  have L5 := Lib.hid hlog4
  clear hlog4 k4 ka4 x4 CC erl
  generalize hbb : w4.heap.size = bb at L5 c0 c1 c2 c3 c4 cf hbn
  go_wp2_with fail
  refine (CT.out _ _ L5.out.row.strs).mono ?_
  rintro e w6 ⟨rfl, k6⟩
  rw [Ht.out]
  have L6 := Lib.hid (L5.out.kept k6)
  have K6 := Lib.hid (K5.out.trans k6)
  clear k6 L5 K5 CT c0 c1 c2 c3 c4 cf
  go_wp2_with fail
  refine (CR1.out w6 K6.out).mono ?_
  rintro e w7 ⟨rfl, k7⟩
  have L7 := Lib.hid (L6.out.kept k7)
  have K7 := Lib.hid (K6.out.trans k7)
  have D7 := Lib.hid (H.out.kept K7.out)
  clear k7 L6 K6 CR1
  by_cases hEq : t = nowF K ws 1
  · have hE : (t.toList != (nowF K ws 1).toList) = false := by rw [hEq]; simp
    have hE' : (t.toList == (nowF K ws 1).toList) = true := by rw [hEq]; simp
    have HEq := Lib.hid hEq
    clear hEq
    go_wp2_with fail
    refine (rlsync_any w7 ⟨D7.out, L7.out⟩).mono ?_
    rintro e w8 ⟨rfl, p8, f8⟩
    have e8 : nowF K ws = O := by
      rw [HO.out]
      funext i
      by_cases hi : i = 1
      · rw [if_pos hi, ← HTb.out, HEq.out, hi]
      · rw [if_neg hi]
    rw [e8] at p8
    have P8 := Lib.hid p8
    have F8 : Hid (But (fun i => i = d ∨ v.ownBlock = some i) w w8) := Lib.hid (K7.out.but.trans f8 fun i hi e => by
      rcases e with e | e
      · have := hbn.out; omega
      · exact .inl e)
    clear p8 f8 hE hE'
    go_wp2
    go_ret2
    exact ⟨bb, _, rfl, P8.out, hbn.out, X4m.out, F8.out⟩
  · have hE : (t.toList != (nowF K ws 1).toList) = true := by
      rw [bne_iff_ne, toList_eq, toList_eq]
      intro e
      exact hEq (by apply ByteArray.ext; exact Array.toList_inj.1 e)
    have hE' : (t.toList == (nowF K ws 1).toList) = false := by simpa [bne] using hE
    clear hEq
    go_wp2_with fail
    refine (rrep_ok 1 t w7 D7.out (by decide) (by omega) hl).mono ?_
    rintro e w8 ⟨rfl, v8, d8, t8, f8⟩
    have D8 := Lib.hid d8
    have L8 := Lib.hid (L7.out.past D7.out f8)
    have F8 := Lib.hid (K7.out.but.trans f8 fun i _ e => e)
    clear d8 t8 f8 hE hE' D7 L7 K7
    go_wp2_with fail
    refine (rlsync_any w8 ⟨D8.out, L8.out⟩).mono ?_
    rintro e w9 ⟨rfl, p9, f9⟩
    have e9 : nowF K (ws ++ [⟨1, t, true⟩]) = O := by
      rw [HO.out, nowF, Dk.now_snoc, Dk.put_all]
      funext i
      simp only [if_true]
      by_cases hi : i = 1
      · rw [if_pos hi, if_pos hi, ← HTb.out]
      · rw [if_neg hi, if_neg hi]
    rw [e9] at p9
    have P9 := Lib.hid p9
    have F9 : Hid (But (fun i => i = d ∨ v.ownBlock = some i) w w9) := Lib.hid (F8.out.trans f9 fun i hi e => by
      rcases e with e | e
      · have := hbn.out; omega
      · exact .inl e)
    clear p9 f9
    go_wp2
    go_ret2
    exact ⟨bb, _, rfl, P9.out, hbn.out, X4m.out, F9.out⟩

/-- the document's pair is not touched by a write to the program's log and its disk -/
theorem RP.past {w w' : World} {base b d : Nat} {K : Dk.Fl} {v : Value} {ws : List Dk.W} {x : Wg.St} {lv : Value} {sure : Nat} {base' rb rd : Nat} {B : Dk.Fl} {rv : Value} {W : List Dk.W} {y : Wg.St} {rlv : Value} {rsure : Nat} (h : RP w base' rb rd B rv W y rlv rsure)
    (o : LD w base b d K v ws x lv sure) (ap : RApart lv rlv) (f : But (LS b d v lv) w w') : RP w' base' rb rd B rv W y rlv rsure := by
  refine ⟨h.dsk.but f (o.not h.dsk.blk (by decide) (by decide) (by decide) (by decide)) fun i e => ?_, ⟨f.at h.log.blk (o.not h.log.blk (by decide) (by decide) (by decide) (by decide)), h.log.low, o.tx f h.log.row ap, h.log.few⟩⟩
  obtain ⟨_, cur, hg⟩ := h.dsk.row.blk e
  exact o.not hg (by decide) (by decide) (by decide) (by decide)
theorem RD.past {w w' : World} {base b d : Nat} {K : Dk.Fl} {v : Value} {ws : List Dk.W} {x : Wg.St} {lv : Value} {sure : Nat} {base' rd : Nat} {B : Dk.Fl} {rv : Value} {W : List Dk.W} (h : RD w base' rd B rv W)
    (o : LD w base b d K v ws x lv sure) (f : But (LS b d v lv) w w') : RD w' base' rd B rv W :=
  h.but f (o.not h.blk (by decide) (by decide) (by decide) (by decide)) fun i e => by
    obtain ⟨_, cur, hg⟩ := h.row.blk e
    exact o.not hg (by decide) (by decide) (by decide) (by decide)
/-- the document's disk is not touched by a write to the program's disk -/
theorem RD.aside {w w' : World} {base d : Nat} {K : Dk.Fl} {v : Value} {ws : List Dk.W} {base' rd : Nat} {B : Dk.Fl} {rv : Value} {W : List Dk.W} (h : RD w base' rd B rv W) (o : Dsk w base d K v ws) (f : But (fun i => i = d ∨ v.ownBlock = some i) w w') : RD w' base' rd B rv W := by
  refine h.but f ?_ fun i e1 => ?_
  · rintro (e | e)
    · subst e
      exact type_ne h.blk o.blk (by decide)
    · obtain ⟨_, cur, hg⟩ := o.row.blk e
      exact type_ne h.blk hg (by decide)
  · obtain ⟨_, cur, hg⟩ := h.row.blk e1
    rintro (e | e)
    · subst e
      exact type_ne hg o.blk (by decide)
    · obtain ⟨_, cur2, hg2⟩ := o.row.blk e
      exact type_ne hg hg2 (by decide)
/-- a block that is of none of the document's types is none of its -/
theorem RP.not {w : World} {base b d : Nat} {K : Dk.Fl} {v : Value} {ws : List Dk.W} {x : Wg.St} {lv : Value} {sure : Nat} (o : RP w base b d K v ws x lv sure) {i : Nat} {c : Array Value} {t : TypeId} {fz : Nat × Nat} (h : w.heap[i]? = some (.cells c t fz)) (h1 : t ≠ 73) (h2 : t ≠ 30) (h3 : t ≠ 83) (h4 : t ≠ 9) : ¬ LS b d v lv i := by
  rintro (rfl | rfl | e | e)
  · exact type_ne h o.log.blk h1
  · exact type_ne h o.dsk.blk h2
  · obtain ⟨_, cur, hg⟩ := o.dsk.row.blk e
    exact type_ne h hg h3
  · obtain ⟨_, cur, hg⟩ := o.log.row.blk e
    exact type_ne h hg h4
/-- the program's pair is not touched by a write to the document's -/
theorem LD.aside {w w' : World} {base b d : Nat} {K : Dk.Fl} {v : Value} {ws : List Dk.W} {x : Wg.St} {lv : Value} {sure : Nat} {base' rb rd : Nat} {B : Dk.Fl} {rv : Value} {W : List Dk.W} {y : Wg.St} {rlv : Value} {rsure : Nat} (h : LD w base b d K v ws x lv sure)
    (o : RP w base' rb rd B rv W y rlv rsure) (ap : RApart lv rlv) (f : But (LS rb rd rv rlv) w w') : LD w' base b d K v ws x lv sure := by
  refine ⟨h.dsk.but f (o.not h.dsk.blk (by decide) (by decide) (by decide) (by decide)) fun i e => ?_, h.log.but f (o.not h.log.blk (by decide) (by decide) (by decide) (by decide)) fun i e => ?_, h.ap⟩
  · obtain ⟨_, cur, hg⟩ := h.dsk.row.blk e
    exact o.not hg (by decide) (by decide) (by decide) (by decide)
  · obtain ⟨_, cur, hg⟩ := h.log.row.blk e
    rintro (rfl | rfl | e' | e')
    · exact type_ne hg o.log.blk (by decide)
    · exact type_ne hg o.dsk.blk (by decide)
    · obtain ⟨_, cur2, hg2⟩ := o.dsk.row.blk e'
      exact type_ne hg hg2 (by decide)
    · exact ap i e e'
/-- nor by a write to the document's disk alone -/
theorem LD.by {w w' : World} {base b d : Nat} {K : Dk.Fl} {v : Value} {ws : List Dk.W} {x : Wg.St} {lv : Value} {sure : Nat} {base' rd : Nat} {B : Dk.Fl} {rv : Value} {W : List Dk.W} (h : LD w base b d K v ws x lv sure) (o : RD w base' rd B rv W) (f : But (fun i => i = rd ∨ rv.ownBlock = some i) w w') : LD w' base b d K v ws x lv sure := by
  have hn : ∀ {i : Nat} {c : Array Value} {t : TypeId} {fz : Nat × Nat}, w.heap[i]? = some (.cells c t fz) → t ≠ 30 → t ≠ 83 → ¬ (i = rd ∨ rv.ownBlock = some i) := fun {i c t fz} hg h1 h2 e => by
    rcases e with e | e
    · subst e
      exact type_ne hg o.blk h1
    · obtain ⟨_, cur, hg2⟩ := o.row.blk e
      exact type_ne hg hg2 h2
  refine ⟨h.dsk.but f (hn h.dsk.blk (by decide) (by decide)) fun i e => ?_, h.log.but f (hn h.log.blk (by decide) (by decide)) fun i e => ?_, h.ap⟩
  · obtain ⟨_, cur, hg⟩ := h.dsk.row.blk e
    exact hn hg (by decide) (by decide)
  · obtain ⟨_, cur, hg⟩ := h.log.row.blk e
    exact hn hg (by decide) (by decide)
theorem Dsk.by {w w' : World} {base d : Nat} {K : Dk.Fl} {v : Value} {ws : List Dk.W} {base' rd : Nat} {B : Dk.Fl} {rv : Value} {W : List Dk.W} (h : Dsk w base d K v ws) (o : RD w base' rd B rv W) (f : But (fun i => i = rd ∨ rv.ownBlock = some i) w w') : Dsk w' base d K v ws := by
  refine h.but f ?_ fun i e1 => ?_
  · rintro (e | e)
    · subst e
      exact type_ne h.blk o.blk (by decide)
    · obtain ⟨_, cur, hg⟩ := o.row.blk e
      exact type_ne h.blk hg (by decide)
  · obtain ⟨_, cur, hg⟩ := h.row.blk e1
    rintro (e | e)
    · subst e
      exact type_ne hg o.blk (by decide)
    · obtain ⟨_, cur2, hg2⟩ := o.row.blk e
      exact type_ne hg hg2 (by decide)
end Go.Proofs.YtenhncohhikllaaDoor
