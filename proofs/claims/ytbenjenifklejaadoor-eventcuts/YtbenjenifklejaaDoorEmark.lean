/-
  Rows of marks in memory; the walks of Sorted and Marks.
-/
import Derived.Test.YtbenjenifklejaaDoorEput
namespace Go.Proofs.YtbenjenifklejaaDoor
open Go.ChangeShapes Go.WideShapes Go.ChangeAt Go.RowKit

/-- a mark that a machine may hold -/
def mfit (m : Ev.M) : Prop := (-9223372036854775808 ≤ m.o ∧ m.o ≤ 9223372036854775807) ∧ -9223372036854775808 ≤ m.s ∧ m.s ≤ 9223372036854775807
/-- a slice of marks -/
structure MkS (w : World) (av : Option Addr) (cap : Nat) (ms : List Ev.M) : Prop where
  cap1 : ms.length ≤ cap
  cap2 : cap ≤ 9223372036854775807
  fit : ∀ m ∈ ms, mfit m
  at_ : ms = [] ∨ ∃ b off, av = some ⟨b, off, none⟩ ∧ b < w.heap.size ∧ ∀ i m, ms[i]? = some m → w.cell? ⟨b, off + i * 2, none⟩ = some (.int .i64 m.o) ∧ w.cell? ⟨b, off + i * 2 + 1, none⟩ = some (.int .i64 m.s)
theorem MkS.kept {w w' : World} {av : Option Addr} {cap : Nat} {ms : List Ev.M} (h : MkS w av cap ms) (k : Kept w w') : MkS w' av cap ms :=
  ⟨h.cap1, h.cap2, h.fit, h.at_.imp id fun ⟨b, off, h1, h2, h3⟩ => ⟨b, off, h1, Nat.lt_of_lt_of_le h2 k.size, fun i m hm => ⟨(Below.cell k (p := ⟨b, off + i * 2, none⟩) h2).trans (h3 i m hm).1, (Below.cell k (p := ⟨b, off + i * 2 + 1, none⟩) h2).trans (h3 i m hm).2⟩⟩⟩
theorem MkS.take {w : World} {av : Option Addr} {cap : Nat} {ms : List Ev.M} (h : MkS w av cap ms) (n : Nat) : MkS w av cap (ms.take n) :=
  ⟨by have := h.cap1; rw [List.length_take]; omega, h.cap2, fun m hm => h.fit m (List.mem_of_mem_take hm), by
    rcases h.at_ with h0 | ⟨b, off, h1, h2, h3⟩
    · left; rw [h0]; simp
    · right
      refine ⟨b, off, h1, h2, fun i m hm => h3 i m ?_⟩
      rw [List.getElem?_take] at hm
      split at hm
      · exact hm
      · cases hm⟩
theorem MkS.nil (w : World) : MkS w none 0 [] := ⟨Nat.le_refl _, Nat.zero_le _, by simp, .inl rfl⟩

theorem srt_step (ms : List Ev.M) (k : Nat) (lo : Int) (h : k < ms.length) : Ev.srt lo (ms.drop k) = ((decide (lo ≤ ms[k].o) && decide (ms[k].o ≤ 1099511627776)) && (decide (1 ≤ ms[k].s) && decide (ms[k].s ≤ 1099511627776)) && Ev.srt (ms[k].o + 1) (ms.drop (k + 1))) := by
  rw [List.drop_eq_getElem_cons h]; rfl

set_option maxHeartbeats 1000000 in
set_option maxRecDepth 100000 in
theorem sorted_any (av : Option Addr) (cap : Nat) (ms : List Ev.M) (w : World) (h : MkS w av cap ms) :
    Calls Tryd.prog 27 #[.slice av ms.length cap] w fun r w' => r = .returned (.bool (Ev.sorted ms)) ∧ Kept w w' := by
  obtain ⟨h1, h2, h3, h4⟩ := h
  obtain ⟨n, hn⟩ : ∃ n, n = ms.length := ⟨_, rfl⟩
  rw [← hn] at h1 ⊢
  have Hn := Lib.hid hn
  have H3 := Lib.hid h3
  have H4 := Lib.hid h4
  clear hn h3 h4
  by_cases hb : 32 < n
  · have HS : Hid (Ev.sorted ms = false) := by show _ = _; rw [Ev.sorted, decide_eq_false (by rw [← Hn.out]; omega)]; rfl
    go_enter Tryd.func27, Tryd.ntmps27
    go_wp2
    go_ret
    exact ⟨by rw [HS.out]; rfl, Kept.refl _⟩
  have HS : Hid (Ev.sorted ms = Ev.srt 0 ms) := by show _ = _; rw [Ev.sorted, decide_eq_true (by rw [← Hn.out]; omega)]; rfl
  go_enter Tryd.func27, Tryd.ntmps27
  go_wp2
  go_loopw [3, 5, 11] (fun least _ i wr => ∃ (k : Nat) (lo : Int), k ≤ n ∧ i = .int .i64 k ∧ least = .int .i64 lo ∧ 0 ≤ lo ∧ lo ≤ 1099511627777 ∧ Hid (Ev.srt 0 ms = Ev.srt lo (ms.drop k)) ∧ Kept w wr) (fun _ _ i _ => n - (intOf i).toNat)
  case atStart => exact ⟨0, 0, by omega, rfl, rfl, by omega, by omega, rfl, Kept.refl _⟩
  case round =>
    obtain ⟨k, lo, hk, rfl, rfl, l0, l1, HE, hkk⟩ := hrel
    have HK := Lib.hid hkk
    by_cases hlt : k < n
    · have hkl : k < ms.length := by rw [← Hn.out]; exact hlt
      obtain ⟨⟨mo, ms_⟩, hm⟩ : ∃ m, ms[k] = m := ⟨_, rfl⟩
      have hst := srt_step ms k lo hkl
      rw [hm] at hst
      have Hst := Lib.hid hst
      have hf : mfit ⟨mo, ms_⟩ := by rw [← hm]; exact H3.out _ (List.getElem_mem hkl)
      rcases H4.out with h0 | ⟨b, off, rfl, hbl, hc⟩
      · rw [h0] at hkl; simp at hkl
      have hcc := hc k ⟨mo, ms_⟩ (by rw [List.getElem?_eq_getElem hkl, hm])
      have d0 : wr.cell? ⟨b, off + k * 2, none⟩ = some (.int .i64 mo) := (Below.cell hkk (p := ⟨b, off + k * 2, none⟩) hbl).trans hcc.1
      have d1 : wr.cell? ⟨b, off + k * 2 + 1, none⟩ = some (.int .i64 ms_) := (Below.cell hkk (p := ⟨b, off + k * 2 + 1, none⟩) hbl).trans hcc.2
      obtain ⟨⟨f0, f1⟩, f2, f3⟩ := hf
      simp only at f0 f1 f2 f3
      clear hst hcc hc hm hkk
      by_cases q1 : lo ≤ mo ∧ mo ≤ 1099511627776
      · by_cases q2 : 1 ≤ ms_ ∧ ms_ ≤ 1099511627776
        · have HN : Hid (Ev.srt 0 ms = Ev.srt (mo + 1) (ms.drop (k + 1))) := by
            show _ = _
            rw [HE.out, Hst.out]
            simp [q1, q2]
          go_wp2_with fail
          refine (within_yes _ _ _ _ q1).mono ?_
          rintro r w1 ⟨rfl, rfl⟩
          go_wp2_with fail
          refine (within_yes _ _ _ _ q2).mono ?_
          rintro r w1 ⟨rfl, rfl⟩
          go_wp2
          go_roundw
          case rel => exact ⟨k + 1, mo + 1, by omega, by go_num, rfl, by omega, by omega, HN, HK.out.alloc _⟩
          case measure => simp [intOf]; omega
        · have HN : Hid (Ev.srt 0 ms = false) := by
            show _ = _
            rw [HE.out, Hst.out, ← Bool.not_eq_true]
            simp only [Bool.and_eq_true, decide_eq_true_eq]
            exact fun h => q2 h.1.2
          go_wp2_with fail
          refine (within_yes _ _ _ _ q1).mono ?_
          rintro r w1 ⟨rfl, rfl⟩
          go_wp2_with fail
          refine (within_no _ _ _ _ q2).mono ?_
          rintro r w1 ⟨rfl, rfl⟩
          go_wp2
          go_ret
          exact ⟨by rw [HS.out, HN.out]; rfl, HK.out.alloc _⟩
      · have HN : Hid (Ev.srt 0 ms = false) := by
          show _ = _
          rw [HE.out, Hst.out, ← Bool.not_eq_true]
          simp only [Bool.and_eq_true, decide_eq_true_eq]
          exact fun h => q1 h.1.1
        go_wp2_with fail
        refine (within_no _ _ _ _ q1).mono ?_
        rintro r w1 ⟨rfl, rfl⟩
        go_wp2
        go_ret
        exact ⟨by rw [HS.out, HN.out]; rfl, HK.out.alloc _⟩
    · obtain rfl : k = n := by omega
      have HN : Hid (Ev.srt 0 ms = true) := by
        show _ = _
        rw [HE.out, List.drop_of_length_le (by rw [← Hn.out]; exact Nat.le_refl _)]
        rfl
      clear hkk
      go_wp2
      go_ret
      exact ⟨by rw [HS.out, HN.out]; rfl, HK.out⟩

/-- the bytes of the first marks -/
def mrow (ms : List Ev.M) (k : Nat) : List UInt8 := Vn.vput ms.length ++ (Ev.mits (ms.take k)).flatMap Ev.iput
theorem mrow_next (ms : List Ev.M) (k : Nat) (h : k < ms.length) : mrow ms (k + 1) = mrow ms k ++ (Vn.vput ms[k].o.toNat ++ Vn.vput ms[k].s.toNat) := by
  unfold mrow Ev.mits
  rw [List.take_succ_eq_append_getElem h, List.flatMap_append, List.flatMap_append, List.append_assoc]
  simp [Ev.iput]
theorem mrow_all (ms : List Ev.M) : mrow ms ms.length = Ev.mbytes ms := by rw [mrow, List.take_length, Ev.mbytes]

set_option maxHeartbeats 1000000 in
set_option maxRecDepth 100000 in
theorem marks_any (av : Option Addr) (cap : Nat) (ms : List Ev.M) (w : World) (h : MkS w av cap ms) (hT : Tab w) :
    Calls Tryd.prog 29 #[.slice av ms.length cap] w fun r w' => r = .returned (str (Ev.mput ms)) ∧ Kept w w' := by
  have HM := Lib.hid h
  obtain ⟨h1, h2, _, _⟩ := h
  obtain ⟨n, hn⟩ : ∃ n, n = ms.length := ⟨_, rfl⟩
  have hso := sorted_any av cap ms w HM.out
  rw [← hn] at h1 hso ⊢
  have Hn := Lib.hid hn
  have Hso := Lib.hid hso
  have HT := Lib.hid hT
  clear hn hso hT
  go_enter Tryd.func29, Tryd.ntmps29
  go_wp2_with fail
  refine Hso.out.mono ?_
  rintro r w1 ⟨rfl, k1⟩
  by_cases hs : Ev.sorted ms = true
  · have Hput : Hid (Ev.mput ms = Ev.mbytes ms) := by show _ = _; rw [Ev.mput, if_pos hs]
    rw [hs]
    have hs2 := (Ev.sorted_iff ms).1 hs
    rw [← Hn.out] at hs2
    obtain ⟨hs3, hs4⟩ := hs2
    have Hall := Lib.hid (Ev.srt_all ms 0 (Int.le_refl _) hs4)
    have HK1 := Lib.hid k1
    have HT1 := Lib.hid (HT.out.kept k1)
    clear hs hs4 k1
    go_wp2_with fail
    refine (put_any _ _ (by omega) (by omega) HT1.out).mono ?_
    rintro r w2 ⟨rfl, k2⟩
    rw [Int.toNat_natCast]
    obtain ⟨P0, hP0, sP0, lP0⟩ := name_put n
    rw [hP0]
    have hz := Vn.vsz_pos n
    rw [← sP0] at hz
    have HK2 := Lib.hid (HK1.out.trans k2)
    have HT2 := Lib.hid (HT1.out.kept k2)
    have LP0 := Lib.hid lP0
    have HM2 := Lib.hid (HM.out.kept HK2.out)
    clear k2 lP0 hP0 sP0
    go_wp2
    go_loopw [3, 5, 15] (fun out _ i wr => ∃ (k : Nat) (P : ByteArray), k ≤ n ∧ i = .int .i64 k ∧ out = .string P ∧ P.size ≤ 9 + 18 * k ∧ P.data.toList = mrow ms k ∧ Kept w2 wr) (fun _ _ i _ => n - (intOf i).toNat)
    case atStart => exact ⟨0, P0, by omega, rfl, rfl, by omega, by rw [← toList_eq, LP0.out, mrow, ← Hn.out]; simp [Ev.mits], Kept.refl _⟩
    case round =>
      obtain ⟨k, P, hk, rfl, rfl, hPs, hP, hkk⟩ := hrel
      have HK := Lib.hid hkk
      have HP := Lib.hid hP
      have HTr := Lib.hid (HT2.out.kept hkk)
      have HMr := Lib.hid (HM2.out.kept hkk)
      clear hP hkk
      by_cases hlt : k < n
      · have hkl : k < ms.length := by rw [← Hn.out]; exact hlt
        have hnx := mrow_next ms k hkl
        have hall := Hall.out ms[k] (List.getElem_mem hkl)
        obtain ⟨⟨mo, ms_⟩, hm⟩ : ∃ m, ms[k] = m := ⟨_, rfl⟩
        rw [hm] at hnx hall
        simp only at hnx hall
        obtain ⟨q1, q2, q3, q4⟩ := hall
        rcases HMr.out.at_ with h0 | ⟨b, off, rfl, hbl, hc⟩
        · rw [h0] at hkl; simp at hkl
        obtain ⟨d0, d1⟩ := hc k ⟨mo, ms_⟩ (by rw [List.getElem?_eq_getElem hkl, hm])
        simp only at d0 d1
        have Hnx := Lib.hid hnx
        clear hnx hm hc
        go_wp2_with fail
        have bx := Blk.made wr #[.int .i64 mo, .int .i64 ms_] 59
        have kx : Kept wr (wr.alloc (.cells #[.int .i64 mo, .int .i64 ms_] 59)) := (Kept.refl wr).alloc _
        obtain ⟨W, hW⟩ : ∃ W, W = wr.alloc (.cells #[.int .i64 mo, .int .i64 ms_] 59) := ⟨_, rfl⟩
        rw [← hW] at bx kx ⊢
        have x0 := bx.cell 0
        have x1 := bx.cell 1
        simp only [List.getElem?_toArray, List.getElem?_cons_zero, List.getElem?_cons_succ] at x0 x1
        have s0 := KW.cell x0
        have s1 := KW.cell x1
        obtain ⟨A, hA, sA, lA⟩ := name_put mo.toNat
        obtain ⟨C, hC, sC, lC⟩ := name_put ms_.toNat
        have zA := Vn.vsz_pos mo.toNat
        have zC := Vn.vsz_pos ms_.toNat
        rw [← sA] at zA
        rw [← sC] at zC
        have HTW := Lib.hid (HTr.out.kept kx)
        have ca : ∀ p : KW W, Calls Tryd.prog 36 #[.int .u64 mo] p.v fun r w' => r = .returned (.string A) ∧ Kept p.v w' := fun p => by
          have := put_any mo p.v q1 (by omega) (HTW.out.kept p.h)
          rwa [hA] at this
        have cb : ∀ p : KW W, Calls Tryd.prog 36 #[.int .u64 ms_] p.v fun r w' => r = .returned (.string C) ∧ Kept p.v w' := fun p => by
          have := put_any ms_ p.v (by omega) (by omega) (HTW.out.kept p.h)
          rwa [hC] at this
        have CA := Lib.hid ca
        have CB := Lib.hid cb
        have LA := Lib.hid lA
        have LC := Lib.hid lC
        have KX := Lib.hid kx
        have hq3 : 0 ≤ ms_ := by omega
        have u1 : IntKind.u64.wrap mo = mo := by simp [IntKind.wrap, IntKind.signed, IntKind.bits]; omega
        have u2 : IntKind.u64.wrap ms_ = ms_ := by simp [IntKind.wrap, IntKind.signed, IntKind.bits]; omega
        clear ca cb lA lC hA hC sA sC x0 x1 hW bx kx d0 d1
        have nn : Nonempty (KW W) := ⟨⟨W, Kept.refl W⟩⟩
        refine wp_region_kept (by kernel_rfl) (by kernel_rfl) ?_
        repeat (go_big_quiet_step ((go_at_call 36; first | (with_reducible exact KW.calls _ (CA.out _)) | (with_reducible exact KW.calls _ (CB.out _)))))
        refine wpQuiet_nil ?_
        intro w6 hw6
        have kk6 : Kept w2 w6 := by
          obtain ⟨p, rfl⟩ := hw6
          exact (HK.out.trans KX.out).trans p.h
        clear hw6 nn s0 s1 u1 u2
        go_wp2
        go_roundw
        case rel =>
          refine ⟨k + 1, P ++ (A ++ C), by omega, by go_num, rfl, by rw [ByteArray.size_append, ByteArray.size_append]; omega, ?_, kk6⟩
          rw [ByteArray.data_append, Array.toList_append, ByteArray.data_append, Array.toList_append, HP.out, ← toList_eq A, ← toList_eq C, LA.out, LC.out, Hnx.out]
        case measure => simp [intOf]; omega
      · obtain rfl : k = n := by omega
        go_wp2
        go_ret
        refine ⟨?_, HK2.out.trans HK.out⟩
        rw [Hput.out, ← mrow_all, ← Hn.out, ← HP.out]
        simp [str]
  · have Hput : Hid (Ev.mput ms = []) := by show _ = _; rw [Ev.mput, if_neg hs]
    rw [Bool.not_eq_true] at hs
    rw [hs]
    have HK1 := Lib.hid k1
    clear hs k1
    go_wp2
    go_ret
    exact ⟨by rw [Hput.out]; rfl, HK1.out⟩
end Go.Proofs.YtbenjenifklejaaDoor
