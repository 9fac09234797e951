/-
  The walk of Put.
-/
import Derived.Test.YtbenjenifklejaaDoorEgetw
import Derived.Test.YtbenjenifklejaaDoorRquiet
namespace Go.Proofs.YtbenjenifklejaaDoor
open Go.ChangeShapes Go.WideShapes Go.ChangeAt Go.RowKit

def nums3 (e : Ev.E) (k : Nat) : List UInt8 := (([e.o.toNat, e.s.toNat, e.d.toNat].take k).map Vn.vput).flatten
theorem bytes_eq (e : Ev.E) : Ev.bytes e = nums3 e 3 ++ (Vn.vput e.t.size ++ e.t.data.toList) ++ (Vn.vput e.l.size ++ e.l.data.toList) := by
  simp [Ev.bytes, Ev.its, Ev.iput, nums3, List.flatMap_cons]
theorem name_row (l : List UInt8) : ∃ p : ByteArray, str l = .string p ∧ p.size = l.length ∧ p.data.toList = l := ⟨⟨l.toArray⟩, rfl, by show l.toArray.size = _; rw [List.size_toArray], rfl⟩

set_option maxHeartbeats 2000000 in
set_option maxRecDepth 100000 in
theorem evput_any (e : Ev.E) (w : World) (hf : Fit e) (ht : e.t.size ≤ 1000000) (hT : Tab w) : Calls Tryd.prog 13 #[evv e] w fun r w' => r = .returned (str (Ev.put e)) ∧ Kept w w' := by
  have Hf := Lib.hid hf
  have HT := Lib.hid hT
  have h0 := hT.size
  clear hf hT
  unfold evv
  go_enter Tryd.func13, Tryd.ntmps13
  go_wp2_with fail
  refine (evright_any e _ Hf.out).mono ?_
  rintro r w1 ⟨rfl, k1⟩
  have b1 := (Blk.made w (evc e) 23).kept k1
  have kw1 : Kept w w1 := (Kept.alloc (Kept.refl w) _).trans k1
  have BB := Lib.hid b1
  have KW1 := Lib.hid kw1
  clear b1 kw1 k1
  by_cases hr : Ev.right e = true
  · have Hput : Hid (Ev.put e = Ev.bytes e) := by show _ = _; rw [Ev.put, if_pos hr]
    rw [hr]
    have hri := (Ev.right_iff e).1 hr
    obtain ⟨⟨o0, o1⟩, ⟨s0, s1⟩, ⟨d0, d1⟩, hl, _⟩ := hri
    clear hr
    go_wp2_with fail
    refine (numbers_any w.heap.size w1 (.int .i64 e.o) (BB.out.cell 0)).mono ?_
    rintro r w2 ⟨rfl, k2⟩
    have B2 := Lib.hid (BB.out.kept k2)
    have KW2 := Lib.hid (KW1.out.trans k2)
    have HT2 := Lib.hid (HT.out.kept KW2.out)
    clear k2
    go_wp2
    go_loopw [3, 5, 10] (fun out _ i wr => ∃ (k : Nat) (P : ByteArray), k ≤ 3 ∧ i = .int .i64 k ∧ out = .string P ∧ P.size ≤ 9 * k ∧ P.data.toList = nums3 e k ∧ Kept w2 wr) (fun _ _ i _ => 3 - (intOf i).toNat)
    case atStart => exact ⟨0, ⟨#[]⟩, by omega, rfl, rfl, Nat.le_refl _, rfl, Kept.refl _⟩
    case round =>
      obtain ⟨k, P, hk, rfl, rfl, hPs, hP, hkk⟩ := hrel
      have bw := B2.out.kept hkk
      have c0 := bw.cell 0
      have c1 := bw.cell 1
      have c2 := bw.cell 2
      have c3 := bw.cell 3
      have c4 := bw.cell 4
      simp only [evc, List.getElem?_toArray, List.getElem?_cons_zero, List.getElem?_cons_succ] at c0 c1 c2 c3 c4
      have HTr := Lib.hid (HT2.out.kept hkk)
      have HK := Lib.hid hkk
      have HP := Lib.hid hP
      clear bw hkk hP
      by_cases hlt : k < 3
      · have hk3 : k = 0 ∨ k = 1 ∨ k = 2 := by omega
        clear c2 c3
        rcases hk3 with rfl | rfl | rfl
        · have hix := idx0
          go_wp2_with fail
          refine (put_any _ _ (by omega) (by omega) HTr.out).mono ?_
          rintro r w7 ⟨rfl, k7⟩
          obtain ⟨q, hq, sq, lq⟩ := name_put (e.o).toNat
          rw [hq]
          have hz := Vn.vsz_pos (e.o).toNat
          rw [← sq] at hz
          have K7 := Lib.hid k7
          have Lq := Lib.hid lq
          clear hix k7 lq hq sq c0 c1 c4
          go_wp2
          go_roundw
          case rel =>
            refine ⟨1, P ++ q, by omega, rfl, rfl, by rw [ByteArray.size_append]; omega, ?_, HK.out.trans K7.out⟩
            rw [ByteArray.data_append, Array.toList_append, HP.out, ← toList_eq q, Lq.out]
            simp [nums3]
          case measure => simp [intOf]
        · have hix := idx1
          go_wp2_with fail
          refine (put_any _ _ (by omega) (by omega) HTr.out).mono ?_
          rintro r w7 ⟨rfl, k7⟩
          obtain ⟨q, hq, sq, lq⟩ := name_put (e.s).toNat
          rw [hq]
          have hz := Vn.vsz_pos (e.s).toNat
          rw [← sq] at hz
          have K7 := Lib.hid k7
          have Lq := Lib.hid lq
          clear hix k7 lq hq sq c0 c1 c4
          go_wp2
          go_roundw
          case rel =>
            refine ⟨2, P ++ q, by omega, rfl, rfl, by rw [ByteArray.size_append]; omega, ?_, HK.out.trans K7.out⟩
            rw [ByteArray.data_append, Array.toList_append, HP.out, ← toList_eq q, Lq.out]
            simp [nums3]
          case measure => simp [intOf]
        · have hix := idx2
          go_wp2_with fail
          refine (put_any _ _ (by omega) (by omega) HTr.out).mono ?_
          rintro r w7 ⟨rfl, k7⟩
          obtain ⟨q, hq, sq, lq⟩ := name_put (e.d).toNat
          rw [hq]
          have hz := Vn.vsz_pos (e.d).toNat
          rw [← sq] at hz
          have K7 := Lib.hid k7
          have Lq := Lib.hid lq
          clear hix k7 lq hq sq c0 c1 c4
          go_wp2
          go_roundw
          case rel =>
            refine ⟨3, P ++ q, by omega, rfl, rfl, by rw [ByteArray.size_append]; omega, ?_, HK.out.trans K7.out⟩
            rw [ByteArray.data_append, Array.toList_append, HP.out, ← toList_eq q, Lq.out]
            simp [nums3]
          case measure => simp [intOf]
      · obtain rfl : k = 3 := by omega
        obtain ⟨T1, hT1, sT1, lT1⟩ := name_row (Vn.vput e.t.size ++ e.t.data.toList)
        obtain ⟨T2, hT2, sT2, lT2⟩ := name_row (Vn.vput e.l.size ++ e.l.data.toList)
        have z1 := Vn.vsz_pos e.t.size
        have z2 := Vn.vsz_pos e.l.size
        rw [List.length_append, Vn.vput_length, size_len] at sT1 sT2
        have q1 : T1.size ≤ 1000009 := by omega
        have q2 : T2.size ≤ 73 := by omega
        have ca : ∀ p : KW wr, Calls Tryd.prog 37 #[.string e.t] p.v fun r w' => r = .returned (.string T1) ∧ Kept p.v w' := fun p => by
          have := text_any e.t p.v (by omega) (HTr.out.kept p.h)
          rwa [hT1] at this
        have cb : ∀ p : KW wr, Calls Tryd.prog 37 #[.string e.l] p.v fun r w' => r = .returned (.string T2) ∧ Kept p.v w' := fun p => by
          have := text_any e.l p.v (by omega) (HTr.out.kept p.h)
          rwa [hT2] at this
        have CA := Lib.hid ca
        have CB := Lib.hid cb
        have L1 := Lib.hid lT1
        have L2 := Lib.hid lT2
        clear ca cb lT1 lT2 hT1 hT2 sT1 sT2 c0 c1 c4
        have s2 := KW.cell c2
        have s3 := KW.cell c3
        go_wp2_with fail
        have nn : Nonempty (KW wr) := ⟨⟨wr, Kept.refl wr⟩⟩
        refine wp_region_kept (by kernel_rfl) (by kernel_rfl) ?_
        repeat (go_big_quiet_step ((go_at_call 37; first | exact KW.calls _ (CA.out _) | exact KW.calls _ (CB.out _))))
        refine wpQuiet_nil ?_
        intro w6 hw6
        have kk6 : Kept w w6 := by
          obtain ⟨p, rfl⟩ := hw6
          exact (KW2.out.trans HK.out).trans p.h
        clear hw6 nn s2 s3
        go_wp2
        go_ret
        refine ⟨?_, kk6⟩
        rw [Hput.out, bytes_eq]
        show Ending.returned (.string (P ++ T1 ++ T2)) = _
        congr 2
        apply ByteArray.ext
        apply Array.toList_inj.1
        rw [ByteArray.data_append, ByteArray.data_append, Array.toList_append, Array.toList_append, HP.out, L1.out, L2.out]
  · have Hput : Hid (Ev.put e = []) := by show _ = _; rw [Ev.put, if_neg hr]
    rw [Bool.not_eq_true] at hr
    rw [hr]
    go_wp2
    go_ret
    exact ⟨by rw [Hput.out]; rfl, KW1.out⟩
end Go.Proofs.YtbenjenifklejaaDoor
