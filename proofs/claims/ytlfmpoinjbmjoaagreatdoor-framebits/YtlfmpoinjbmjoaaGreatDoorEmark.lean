/-
  Rows of marks in memory; the walks of Sorted and Marks.
-/
import Derived.Test.YtlfmpoinjbmjoaaGreatDoorEgetw
import Derived.Test.YtlfmpoinjbmjoaaGreatDoorRquiet
namespace Go.Proofs.YtlfmpoinjbmjoaaGreatDoor
open Go.ChangeShapes Go.WideShapes Go.ChangeAt Go.RowKit

def nums3 (e : Ev.E) (k : Nat) : List UInt8 := (([e.o.toNat, e.s.toNat, e.d.toNat].take k).map Vn.vput).flatten
theorem bytes_eq (e : Ev.E) : Ev.bytes e = nums3 e 3 ++ (Vn.vput e.t.size ++ e.t.data.toList) ++ (Vn.vput e.l.size ++ e.l.data.toList) := by
  simp [Ev.bytes, Ev.its, Ev.iput, nums3, List.flatMap_cons]
theorem name_row (l : List UInt8) : ∃ p : ByteArray, str l = .string p ∧ p.size = l.length ∧ p.data.toList = l := ⟨⟨l.toArray⟩, rfl, by show l.toArray.size = _; rw [List.size_toArray], rfl⟩

set_option maxHeartbeats 2000000 in
set_option maxRecDepth 100000 in
theorem evput_any (e : Ev.E) (w : World) (hf : Fit e) (ht : e.t.size ≤ 1000000) (hT : Tab w) : Calls Tryz.prog 142 #[evv e] w fun r w' => r = .returned (str (Ev.put e)) ∧ Kept w w' := by
  have Hf := Lib.hid hf
  have HT := Lib.hid hT
  have h0 := hT.size
  clear hf hT
  unfold evv
  go_enter Tryz.func142, Tryz.ntmps142
  go_wp2_with fail
  refine (evright_any e _ Hf.out).mono ?_
  rintro r w1 ⟨rfl, k1⟩
  have b1 := (Blk.made w (evc e) 23).kept k1
  have kw1 : Kept w w1 := (Kept.alloc (Kept.refl w) _).trans k1
  have BB := Lib.hid b1
  have KW1 := Lib.hid kw1
  clear b1 kw1 k1
  by_cases hr : Ev.right e = true
  · have Hput : Hid (Ev.put e = Ev.bytes e) := by show _ = _; rw [Ev.put, if_pos hr]
    rw [hr]
    have hri := (Ev.right_iff e).1 hr
    obtain ⟨⟨o0, o1⟩, ⟨s0, s1⟩, ⟨d0, d1⟩, hl, _⟩ := hri
    clear hr
    go_wp2_with fail
    refine (numbers_any w.heap.size w1 (.int .i64 e.o) (BB.out.cell 0)).mono ?_
    rintro r w2 ⟨rfl, k2⟩
    have B2 := Lib.hid (BB.out.kept k2)
    have KW2 := Lib.hid (KW1.out.trans k2)
    have HT2 := Lib.hid (HT.out.kept KW2.out)
    clear k2
    go_wp2
    go_loopw [3, 5, 10] (fun out _ i wr => ∃ (k : Nat) (P : ByteArray), k ≤ 3 ∧ i = .int .i64 k ∧ out = .string P ∧ P.size ≤ 9 * k ∧ P.data.toList = nums3 e k ∧ Kept w2 wr) (fun _ _ i _ => 3 - (intOf i).toNat)
    case atStart => exact ⟨0, ⟨#[]⟩, by omega, rfl, rfl, Nat.le_refl _, rfl, Kept.refl _⟩
    case round =>
      obtain ⟨k, P, hk, rfl, rfl, hPs, hP, hkk⟩ := hrel
      have bw := B2.out.kept hkk
      have c0 := bw.cell 0
      have c1 := bw.cell 1
      have c2 := bw.cell 2
      have c3 := bw.cell 3
      have c4 := bw.cell 4
      simp only [evc, List.getElem?_toArray, List.getElem?_cons_zero, List.getElem?_cons_succ] at c0 c1 c2 c3 c4
      have HTr := Lib.hid (HT2.out.kept hkk)
      have HK := Lib.hid hkk
      have HP := Lib.hid hP
      clear bw hkk hP
      by_cases hlt : k < 3
      · have hk3 : k = 0 ∨ k = 1 ∨ k = 2 := by omega
        clear c2 c3
        rcases hk3 with rfl | rfl | rfl
        · have hix := idx0
          go_wp2_with fail
          refine (put_any _ _ (by omega) (by omega) HTr.out).mono ?_
          rintro r w7 ⟨rfl, k7⟩
          obtain ⟨q, hq, sq, lq⟩ := name_put (e.o).toNat
          rw [hq]
          have hz := Vn.vsz_pos (e.o).toNat
          rw [← sq] at hz
          have K7 := Lib.hid k7
          have Lq := Lib.hid lq
          clear hix k7 lq hq sq c0 c1 c4
          go_wp2
          go_roundw
          case rel =>
            refine ⟨1, P ++ q, by omega, rfl, rfl, by rw [ByteArray.size_append]; omega, ?_, HK.out.trans K7.out⟩
            rw [ByteArray.data_append, Array.toList_append, HP.out, ← toList_eq q, Lq.out]
            simp [nums3]
          case measure => simp [intOf]
        · have hix := idx1
          go_wp2_with fail
          refine (put_any _ _ (by omega) (by omega) HTr.out).mono ?_
          rintro r w7 ⟨rfl, k7⟩
          obtain ⟨q, hq, sq, lq⟩ := name_put (e.s).toNat
          rw [hq]
          have hz := Vn.vsz_pos (e.s).toNat
          rw [← sq] at hz
          have K7 := Lib.hid k7
          have Lq := Lib.hid lq
          clear hix k7 lq hq sq c0 c1 c4
          go_wp2
          go_roundw
          case rel =>
            refine ⟨2, P ++ q, by omega, rfl, rfl, by rw [ByteArray.size_append]; omega, ?_, HK.out.trans K7.out⟩
            rw [ByteArray.data_append, Array.toList_append, HP.out, ← toList_eq q, Lq.out]
            simp [nums3]
          case measure => simp [intOf]
        · have hix := idx2
          go_wp2_with fail
          refine (put_any _ _ (by omega) (by omega) HTr.out).mono ?_
          rintro r w7 ⟨rfl, k7⟩
          obtain ⟨q, hq, sq, lq⟩ := name_put (e.d).toNat
          rw [hq]
          have hz := Vn.vsz_pos (e.d).toNat
          rw [← sq] at hz
          have K7 := Lib.hid k7
          have Lq := Lib.hid lq
          clear hix k7 lq hq sq c0 c1 c4
          go_wp2
          go_roundw
          case rel =>
            refine ⟨3, P ++ q, by omega, rfl, rfl, by rw [ByteArray.size_append]; omega, ?_, HK.out.trans K7.out⟩
            rw [ByteArray.data_append, Array.toList_append, HP.out, ← toList_eq q, Lq.out]
            simp [nums3]
          case measure => simp [intOf]
      · obtain rfl : k = 3 := by omega
        obtain ⟨T1, hT1, sT1, lT1⟩ := name_row (Vn.vput e.t.size ++ e.t.data.toList)
        obtain ⟨T2, hT2, sT2, lT2⟩ := name_row (Vn.vput e.l.size ++ e.l.data.toList)
        have z1 := Vn.vsz_pos e.t.size
        have z2 := Vn.vsz_pos e.l.size
        rw [List.length_append, Vn.vput_length, size_len] at sT1 sT2
        have q1 : T1.size ≤ 1000009 := by omega
        have q2 : T2.size ≤ 73 := by omega
        have ca : ∀ p : KW wr, Calls Tryz.prog 54 #[.string e.t] p.v fun r w' => r = .returned (.string T1) ∧ Kept p.v w' := fun p => by
          have := text_any e.t p.v (by omega) (HTr.out.kept p.h)
          rwa [hT1] at this
        have cb : ∀ p : KW wr, Calls Tryz.prog 54 #[.string e.l] p.v fun r w' => r = .returned (.string T2) ∧ Kept p.v w' := fun p => by
          have := text_any e.l p.v (by omega) (HTr.out.kept p.h)
          rwa [hT2] at this
        have CA := Lib.hid ca
        have CB := Lib.hid cb
        have L1 := Lib.hid lT1
        have L2 := Lib.hid lT2
        clear ca cb lT1 lT2 hT1 hT2 sT1 sT2 c0 c1 c4
        have s2 := KW.cell c2
        have s3 := KW.cell c3
        go_wp2_with fail
        have nn : Nonempty (KW wr) := ⟨⟨wr, Kept.refl wr⟩⟩
        refine wp_region_kept (by kernel_rfl) (by kernel_rfl) ?_
        repeat (go_big_quiet_step ((go_at_call 54; first | exact KW.calls _ (CA.out _) | exact KW.calls _ (CB.out _))))
        refine wpQuiet_nil ?_
        intro w6 hw6
        have kk6 : Kept w w6 := by
          obtain ⟨p, rfl⟩ := hw6
          exact (KW2.out.trans HK.out).trans p.h
        clear hw6 nn s2 s3
        go_wp2
        go_ret
        refine ⟨?_, kk6⟩
        rw [Hput.out, bytes_eq]
        show Ending.returned (.string (P ++ T1 ++ T2)) = _
        congr 2
        apply ByteArray.ext
        apply Array.toList_inj.1
        rw [ByteArray.data_append, ByteArray.data_append, Array.toList_append, Array.toList_append, HP.out, L1.out, L2.out]
  · have Hput : Hid (Ev.put e = []) := by show _ = _; rw [Ev.put, if_neg hr]
    rw [Bool.not_eq_true] at hr
    rw [hr]
    go_wp2
    go_ret
    exact ⟨by rw [Hput.out]; rfl, KW1.out⟩
end Go.Proofs.YtlfmpoinjbmjoaaGreatDoor

namespace Go.Proofs.YtlfmpoinjbmjoaaGreatDoor
open Go.ChangeShapes Go.WideShapes Go.ChangeAt Go.RowKit

/-- a mark that a machine may hold -/
def mfit (m : Ev.M) : Prop := (-9223372036854775808 ≤ m.o ∧ m.o ≤ 9223372036854775807) ∧ -9223372036854775808 ≤ m.s ∧ m.s ≤ 9223372036854775807
/-- a slice of marks -/
structure MkS (w : World) (av : Option Addr) (cap : Nat) (ms : List Ev.M) : Prop where
  cap1 : ms.length ≤ cap
  cap2 : cap ≤ 9223372036854775807
  fit : ∀ m ∈ ms, mfit m
  at_ : ms = [] ∨ ∃ b off, av = some ⟨b, off, none⟩ ∧ b < w.heap.size ∧ ∀ i m, ms[i]? = some m → w.cell? ⟨b, off + i * 2, none⟩ = some (.int .i64 m.o) ∧ w.cell? ⟨b, off + i * 2 + 1, none⟩ = some (.int .i64 m.s)
theorem MkS.kept {w w' : World} {av : Option Addr} {cap : Nat} {ms : List Ev.M} (h : MkS w av cap ms) (k : Kept w w') : MkS w' av cap ms :=
  ⟨h.cap1, h.cap2, h.fit, h.at_.imp id fun ⟨b, off, h1, h2, h3⟩ => ⟨b, off, h1, Nat.lt_of_lt_of_le h2 k.size, fun i m hm => ⟨(Below.cell k (p := ⟨b, off + i * 2, none⟩) h2).trans (h3 i m hm).1, (Below.cell k (p := ⟨b, off + i * 2 + 1, none⟩) h2).trans (h3 i m hm).2⟩⟩⟩
theorem MkS.take {w : World} {av : Option Addr} {cap : Nat} {ms : List Ev.M} (h : MkS w av cap ms) (n : Nat) : MkS w av cap (ms.take n) :=
  ⟨by have := h.cap1; rw [List.length_take]; omega, h.cap2, fun m hm => h.fit m (List.mem_of_mem_take hm), by
    rcases h.at_ with h0 | ⟨b, off, h1, h2, h3⟩
    · left; rw [h0]; simp
    · right
      refine ⟨b, off, h1, h2, fun i m hm => h3 i m ?_⟩
      rw [List.getElem?_take] at hm
      split at hm
      · exact hm
      · cases hm⟩
theorem MkS.nil (w : World) : MkS w none 0 [] := ⟨Nat.le_refl _, Nat.zero_le _, by simp, .inl rfl⟩

theorem srt_step (ms : List Ev.M) (k : Nat) (lo : Int) (h : k < ms.length) : Ev.srt lo (ms.drop k) = ((decide (lo ≤ ms[k].o) && decide (ms[k].o ≤ 1099511627776)) && (decide (1 ≤ ms[k].s) && decide (ms[k].s ≤ 1099511627776)) && Ev.srt (ms[k].o + 1) (ms.drop (k + 1))) := by
  rw [List.drop_eq_getElem_cons h]; rfl

set_option maxHeartbeats 1000000 in
set_option maxRecDepth 100000 in
theorem sorted_any (av : Option Addr) (cap : Nat) (ms : List Ev.M) (w : World) (h : MkS w av cap ms) :
    Calls Tryz.prog 130 #[.slice av ms.length cap] w fun r w' => r = .returned (.bool (Ev.sorted ms)) ∧ Kept w w' := by
  obtain ⟨h1, h2, h3, h4⟩ := h
  obtain ⟨n, hn⟩ : ∃ n, n = ms.length := ⟨_, rfl⟩
  rw [← hn] at h1 ⊢
  have Hn := Lib.hid hn
  have H3 := Lib.hid h3
  have H4 := Lib.hid h4
  clear hn h3 h4
  by_cases hb : 32 < n
  · have HS : Hid (Ev.sorted ms = false) := by show _ = _; rw [Ev.sorted, decide_eq_false (by rw [← Hn.out]; omega)]; rfl
    go_enter Tryz.func130, Tryz.ntmps130
    go_wp2
    go_ret
    exact ⟨by rw [HS.out]; rfl, Kept.refl _⟩
  have HS : Hid (Ev.sorted ms = Ev.srt 0 ms) := by show _ = _; rw [Ev.sorted, decide_eq_true (by rw [← Hn.out]; omega)]; rfl
  go_enter Tryz.func130, Tryz.ntmps130
  go_wp2
  go_loopw [3, 5, 11] (fun least _ i wr => ∃ (k : Nat) (lo : Int), k ≤ n ∧ i = .int .i64 k ∧ least = .int .i64 lo ∧ 0 ≤ lo ∧ lo ≤ 1099511627777 ∧ Hid (Ev.srt 0 ms = Ev.srt lo (ms.drop k)) ∧ Kept w wr) (fun _ _ i _ => n - (intOf i).toNat)
  case atStart => exact ⟨0, 0, by omega, rfl, rfl, by omega, by omega, rfl, Kept.refl _⟩
  case round =>
    obtain ⟨k, lo, hk, rfl, rfl, l0, l1, HE, hkk⟩ := hrel
    have HK := Lib.hid hkk
    by_cases hlt : k < n
    · have hkl : k < ms.length := by rw [← Hn.out]; exact hlt
      obtain ⟨⟨mo, ms_⟩, hm⟩ : ∃ m, ms[k] = m := ⟨_, rfl⟩
      have hst := srt_step ms k lo hkl
      rw [hm] at hst
      have Hst := Lib.hid hst
      have hf : mfit ⟨mo, ms_⟩ := by rw [← hm]; exact H3.out _ (List.getElem_mem hkl)
      rcases H4.out with h0 | ⟨b, off, rfl, hbl, hc⟩
      · rw [h0] at hkl; simp at hkl
      have hcc := hc k ⟨mo, ms_⟩ (by rw [List.getElem?_eq_getElem hkl, hm])
      have d0 : wr.cell? ⟨b, off + k * 2, none⟩ = some (.int .i64 mo) := (Below.cell hkk (p := ⟨b, off + k * 2, none⟩) hbl).trans hcc.1
      have d1 : wr.cell? ⟨b, off + k * 2 + 1, none⟩ = some (.int .i64 ms_) := (Below.cell hkk (p := ⟨b, off + k * 2 + 1, none⟩) hbl).trans hcc.2
      obtain ⟨⟨f0, f1⟩, f2, f3⟩ := hf
      simp only at f0 f1 f2 f3
      clear hst hcc hc hm hkk
      by_cases q1 : lo ≤ mo ∧ mo ≤ 1099511627776
      · by_cases q2 : 1 ≤ ms_ ∧ ms_ ≤ 1099511627776
        · have HN : Hid (Ev.srt 0 ms = Ev.srt (mo + 1) (ms.drop (k + 1))) := by
            show _ = _
            rw [HE.out, Hst.out]
            simp [q1, q2]
          go_wp2_with fail
          refine (within_yes _ _ _ _ q1).mono ?_
          rintro r w1 ⟨rfl, rfl⟩
          go_wp2_with fail
          refine (within_yes _ _ _ _ q2).mono ?_
          rintro r w1 ⟨rfl, rfl⟩
          go_wp2
          go_roundw
          case rel => exact ⟨k + 1, mo + 1, by omega, by go_num, rfl, by omega, by omega, HN, HK.out.alloc _⟩
          case measure => simp [intOf]; omega
        · have HN : Hid (Ev.srt 0 ms = false) := by
            show _ = _
            rw [HE.out, Hst.out, ← Bool.not_eq_true]
            simp only [Bool.and_eq_true, decide_eq_true_eq]
            exact fun h => q2 h.1.2
          go_wp2_with fail
          refine (within_yes _ _ _ _ q1).mono ?_
          rintro r w1 ⟨rfl, rfl⟩
          go_wp2_with fail
          refine (within_no _ _ _ _ q2).mono ?_
          rintro r w1 ⟨rfl, rfl⟩
          go_wp2
          go_ret
          exact ⟨by rw [HS.out, HN.out]; rfl, HK.out.alloc _⟩
      · have HN : Hid (Ev.srt 0 ms = false) := by
          show _ = _
          rw [HE.out, Hst.out, ← Bool.not_eq_true]
          simp only [Bool.and_eq_true, decide_eq_true_eq]
          exact fun h => q1 h.1.1
        go_wp2_with fail
        refine (within_no _ _ _ _ q1).mono ?_
        rintro r w1 ⟨rfl, rfl⟩
        go_wp2
        go_ret
        exact ⟨by rw [HS.out, HN.out]; rfl, HK.out.alloc _⟩
    · obtain rfl : k = n := by omega
      have HN : Hid (Ev.srt 0 ms = true) := by
        show _ = _
        rw [HE.out, List.drop_of_length_le (by rw [← Hn.out]; exact Nat.le_refl _)]
        rfl
      clear hkk
      go_wp2
      go_ret
      exact ⟨by rw [HS.out, HN.out]; rfl, HK.out⟩

/-- the bytes of the first marks -/
def mrow (ms : List Ev.M) (k : Nat) : List UInt8 := Vn.vput ms.length ++ (Ev.mits (ms.take k)).flatMap Ev.iput
theorem mrow_next (ms : List Ev.M) (k : Nat) (h : k < ms.length) : mrow ms (k + 1) = mrow ms k ++ (Vn.vput ms[k].o.toNat ++ Vn.vput ms[k].s.toNat) := by
  unfold mrow Ev.mits
  rw [List.take_succ_eq_append_getElem h, List.flatMap_append, List.flatMap_append, List.append_assoc]
  simp [Ev.iput]
theorem mrow_all (ms : List Ev.M) : mrow ms ms.length = Ev.mbytes ms := by rw [mrow, List.take_length, Ev.mbytes]

set_option maxHeartbeats 1000000 in
set_option maxRecDepth 100000 in
theorem marks_any (av : Option Addr) (cap : Nat) (ms : List Ev.M) (w : World) (h : MkS w av cap ms) (hT : Tab w) :
    Calls Tryz.prog 129 #[.slice av ms.length cap] w fun r w' => r = .returned (str (Ev.mput ms)) ∧ Kept w w' := by
  have HM := Lib.hid h
  obtain ⟨h1, h2, _, _⟩ := h
  obtain ⟨n, hn⟩ : ∃ n, n = ms.length := ⟨_, rfl⟩
  have hso := sorted_any av cap ms w HM.out
  rw [← hn] at h1 hso ⊢
  have Hn := Lib.hid hn
  have Hso := Lib.hid hso
  have HT := Lib.hid hT
  clear hn hso hT
  go_enter Tryz.func129, Tryz.ntmps129
  go_wp2_with fail
  refine Hso.out.mono ?_
  rintro r w1 ⟨rfl, k1⟩
  by_cases hs : Ev.sorted ms = true
  · have Hput : Hid (Ev.mput ms = Ev.mbytes ms) := by show _ = _; rw [Ev.mput, if_pos hs]
    rw [hs]
    have hs2 := (Ev.sorted_iff ms).1 hs
    rw [← Hn.out] at hs2
    obtain ⟨hs3, hs4⟩ := hs2
    have Hall := Lib.hid (Ev.srt_all ms 0 (Int.le_refl _) hs4)
    have HK1 := Lib.hid k1
    have HT1 := Lib.hid (HT.out.kept k1)
    clear hs hs4 k1
    go_wp2_with fail
    refine (put_any _ _ (by omega) (by omega) HT1.out).mono ?_
    rintro r w2 ⟨rfl, k2⟩
    rw [Int.toNat_natCast]
    obtain ⟨P0, hP0, sP0, lP0⟩ := name_put n
    rw [hP0]
    have hz := Vn.vsz_pos n
    rw [← sP0] at hz
    have HK2 := Lib.hid (HK1.out.trans k2)
    have HT2 := Lib.hid (HT1.out.kept k2)
    have LP0 := Lib.hid lP0
    have HM2 := Lib.hid (HM.out.kept HK2.out)
    clear k2 lP0 hP0 sP0
    go_wp2
    go_loopw [3, 5, 15] (fun out _ i wr => ∃ (k : Nat) (P : ByteArray), k ≤ n ∧ i = .int .i64 k ∧ out = .string P ∧ P.size ≤ 9 + 18 * k ∧ P.data.toList = mrow ms k ∧ Kept w2 wr) (fun _ _ i _ => n - (intOf i).toNat)
    case atStart => exact ⟨0, P0, by omega, rfl, rfl, by omega, by rw [← toList_eq, LP0.out, mrow, ← Hn.out]; simp [Ev.mits], Kept.refl _⟩
    case round =>
      obtain ⟨k, P, hk, rfl, rfl, hPs, hP, hkk⟩ := hrel
      have HK := Lib.hid hkk
      have HP := Lib.hid hP
      have HTr := Lib.hid (HT2.out.kept hkk)
      have HMr := Lib.hid (HM2.out.kept hkk)
      clear hP hkk
      by_cases hlt : k < n
      · have hkl : k < ms.length := by rw [← Hn.out]; exact hlt
        have hnx := mrow_next ms k hkl
        have hall := Hall.out ms[k] (List.getElem_mem hkl)
        obtain ⟨⟨mo, ms_⟩, hm⟩ : ∃ m, ms[k] = m := ⟨_, rfl⟩
        rw [hm] at hnx hall
        simp only at hnx hall
        obtain ⟨q1, q2, q3, q4⟩ := hall
        rcases HMr.out.at_ with h0 | ⟨b, off, rfl, hbl, hc⟩
        · rw [h0] at hkl; simp at hkl
        obtain ⟨d0, d1⟩ := hc k ⟨mo, ms_⟩ (by rw [List.getElem?_eq_getElem hkl, hm])
        simp only at d0 d1
        have Hnx := Lib.hid hnx
        clear hnx hm hc
        go_wp2_with fail
        have bx := Blk.made wr #[.int .i64 mo, .int .i64 ms_] 63
        have kx : Kept wr (wr.alloc (.cells #[.int .i64 mo, .int .i64 ms_] 63)) := (Kept.refl wr).alloc _
        obtain ⟨W, hW⟩ : ∃ W, W = wr.alloc (.cells #[.int .i64 mo, .int .i64 ms_] 63) := ⟨_, rfl⟩
        rw [← hW] at bx kx ⊢
        have x0 := bx.cell 0
        have x1 := bx.cell 1
        simp only [List.getElem?_toArray, List.getElem?_cons_zero, List.getElem?_cons_succ] at x0 x1
        have s0 := KW.cell x0
        have s1 := KW.cell x1
        obtain ⟨A, hA, sA, lA⟩ := name_put mo.toNat
        obtain ⟨C, hC, sC, lC⟩ := name_put ms_.toNat
        have zA := Vn.vsz_pos mo.toNat
        have zC := Vn.vsz_pos ms_.toNat
        rw [← sA] at zA
        rw [← sC] at zC
        have HTW := Lib.hid (HTr.out.kept kx)
        have ca : ∀ p : KW W, Calls Tryz.prog 29 #[.int .u64 mo] p.v fun r w' => r = .returned (.string A) ∧ Kept p.v w' := fun p => by
          have := put_any mo p.v q1 (by omega) (HTW.out.kept p.h)
          rwa [hA] at this
        have cb : ∀ p : KW W, Calls Tryz.prog 29 #[.int .u64 ms_] p.v fun r w' => r = .returned (.string C) ∧ Kept p.v w' := fun p => by
          have := put_any ms_ p.v (by omega) (by omega) (HTW.out.kept p.h)
          rwa [hC] at this
        have CA := Lib.hid ca
        have CB := Lib.hid cb
        have LA := Lib.hid lA
        have LC := Lib.hid lC
        have KX := Lib.hid kx
        have hq3 : 0 ≤ ms_ := by omega
        have u1 : IntKind.u64.wrap mo = mo := by simp [IntKind.wrap, IntKind.signed, IntKind.bits]; omega
        have u2 : IntKind.u64.wrap ms_ = ms_ := by simp [IntKind.wrap, IntKind.signed, IntKind.bits]; omega
        clear ca cb lA lC hA hC sA sC x0 x1 hW bx kx d0 d1
        have nn : Nonempty (KW W) := ⟨⟨W, Kept.refl W⟩⟩
        refine wp_region_kept (by kernel_rfl) (by kernel_rfl) ?_
        repeat (go_big_quiet_step ((go_at_call 29; first | (with_reducible exact KW.calls _ (CA.out _)) | (with_reducible exact KW.calls _ (CB.out _)))))
        refine wpQuiet_nil ?_
        intro w6 hw6
        have kk6 : Kept w2 w6 := by
          obtain ⟨p, rfl⟩ := hw6
          exact (HK.out.trans KX.out).trans p.h
        clear hw6 nn s0 s1 u1 u2
        go_wp2
        go_roundw
        case rel =>
          refine ⟨k + 1, P ++ (A ++ C), by omega, by go_num, rfl, by rw [ByteArray.size_append, ByteArray.size_append]; omega, ?_, kk6⟩
          rw [ByteArray.data_append, Array.toList_append, ByteArray.data_append, Array.toList_append, HP.out, ← toList_eq A, ← toList_eq C, LA.out, LC.out, Hnx.out]
        case measure => simp [intOf]; omega
      · obtain rfl : k = n := by omega
        go_wp2
        go_ret
        refine ⟨?_, HK2.out.trans HK.out⟩
        rw [Hput.out, ← mrow_all, ← Hn.out, ← HP.out]
        simp [str]
  · have Hput : Hid (Ev.mput ms = []) := by show _ = _; rw [Ev.mput, if_neg hs]
    rw [Bool.not_eq_true] at hs
    rw [hs]
    have HK1 := Lib.hid k1
    clear hs k1
    go_wp2
    go_ret
    exact ⟨by rw [Hput.out]; rfl, HK1.out⟩
end Go.Proofs.YtlfmpoinjbmjoaaGreatDoor
