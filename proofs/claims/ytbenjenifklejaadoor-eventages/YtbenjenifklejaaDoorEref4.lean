/-
  The document's own: the walks of rivuletref06.Marks, Equal.
-/
import Derived.Test.YtbenjenifklejaaDoorEref3
namespace Go.Proofs.YtbenjenifklejaaDoor
open Go.ChangeShapes Go.WideShapes Go.ChangeAt Go.RowKit

set_option maxHeartbeats 1000000 in
set_option maxRecDepth 100000 in
theorem rmarks_any (av : Option Addr) (cap : Nat) (ms : List Ev.M) (w : World) (h : MkS w av cap ms) :
    Calls Tryd.prog 30 #[.slice av ms.length cap] w fun r w' => r = .returned (str (Ev.mput ms)) ∧ Kept w w' := by
  have HM := Lib.hid h
  obtain ⟨h1, h2, _, _⟩ := h
  obtain ⟨n, hn⟩ : ∃ n, n = ms.length := ⟨_, rfl⟩
  have hso := rsorted_any av cap ms w HM.out
  rw [← hn] at h1 hso ⊢
  have Hn := Lib.hid hn
  have Hso := Lib.hid hso
  clear hn hso
  go_enter Tryd.func30, Tryd.ntmps30
  go_wp2_with fail
  refine Hso.out.mono ?_
  rintro r w1 ⟨rfl, k1⟩
  by_cases hs : Ev.sorted ms = true
  · have Hput : Hid (Ev.mput ms = Ev.mbytes ms) := by show _ = _; rw [Ev.mput, if_pos hs]
    rw [hs]
    have hs2 := (Ev.sorted_iff ms).1 hs
    rw [← Hn.out] at hs2
    obtain ⟨hs3, hs4⟩ := hs2
    have Hall := Lib.hid (Ev.srt_all ms 0 (Int.le_refl _) hs4)
    have HK1 := Lib.hid k1
    clear hs hs4 k1
    go_wp2_with fail
    refine (refput_any _ _ (by omega) (by omega)).mono ?_
    rintro r w2 ⟨rfl, k2⟩
    rw [Int.toNat_natCast]
    obtain ⟨P0, hP0, sP0, lP0⟩ := name_put n
    rw [hP0]
    have hz := Vn.vsz_pos n
    rw [← sP0] at hz
    have HK2 := Lib.hid (HK1.out.trans k2)
    have LP0 := Lib.hid lP0
    have HM2 := Lib.hid (HM.out.kept HK2.out)
    clear k2 lP0 hP0 sP0
    go_wp2
    go_loopw [3, 4] (fun out i wr => ∃ (k : Nat) (P : ByteArray), k ≤ n ∧ i = .int .i64 k ∧ out = .string P ∧ P.size ≤ 9 + 18 * k ∧ P.data.toList = mrow ms k ∧ Kept w2 wr) (fun _ i _ => n - (intOf i).toNat)
    case atStart => exact ⟨0, P0, by omega, rfl, rfl, by omega, by rw [← toList_eq, LP0.out, mrow, ← Hn.out]; simp [Ev.mits], Kept.refl _⟩
    case round =>
      obtain ⟨k, P, hk, rfl, rfl, hPs, hP, hkk⟩ := hrel
      have HK := Lib.hid hkk
      have HP := Lib.hid hP
      have HMr := Lib.hid (HM2.out.kept hkk)
      clear hP hkk
      by_cases hlt : k < n
      · have hkl : k < ms.length := by rw [← Hn.out]; exact hlt
        have hnx := mrow_next ms k hkl
        have hall := Hall.out ms[k] (List.getElem_mem hkl)
        obtain ⟨⟨mo, ms_⟩, hm⟩ : ∃ m, ms[k] = m := ⟨_, rfl⟩
        rw [hm] at hnx hall
        simp only at hnx hall
        obtain ⟨q1, q2, q3, q4⟩ := hall
        rcases HMr.out.at_ with h0 | ⟨b, off, rfl, hbl, hc⟩
        · rw [h0] at hkl; simp at hkl
        obtain ⟨d0, d1⟩ := hc k ⟨mo, ms_⟩ (by rw [List.getElem?_eq_getElem hkl, hm])
        simp only at d0 d1
        have Hnx := Lib.hid hnx
        clear hnx hm hc
        go_wp2_with fail
        have x0 := d0
        have x1 := d1
        have s0 := KW.cell x0
        have s1 := KW.cell x1
        obtain ⟨A, hA, sA, lA⟩ := name_put mo.toNat
        obtain ⟨C, hC, sC, lC⟩ := name_put ms_.toNat
        have zA := Vn.vsz_pos mo.toNat
        have zC := Vn.vsz_pos ms_.toNat
        rw [← sA] at zA
        rw [← sC] at zC
        have ca : ∀ p : KW wr, Calls Tryd.prog 38 #[.int .u64 mo] p.v fun r w' => r = .returned (.string A) ∧ Kept p.v w' := fun p => by
          have := refput_any mo p.v q1 (by omega)
          rwa [hA] at this
        have cb : ∀ p : KW wr, Calls Tryd.prog 38 #[.int .u64 ms_] p.v fun r w' => r = .returned (.string C) ∧ Kept p.v w' := fun p => by
          have := refput_any ms_ p.v (by omega) (by omega)
          rwa [hC] at this
        have CA := Lib.hid ca
        have CB := Lib.hid cb
        have LA := Lib.hid lA
        have LC := Lib.hid lC
        have hq3 : 0 ≤ ms_ := by omega
        have hki : (k : Int) < (n : Int) := by omega
        have u1 : IntKind.u64.wrap mo = mo := by simp [IntKind.wrap, IntKind.signed, IntKind.bits]; omega
        have u2 : IntKind.u64.wrap ms_ = ms_ := by simp [IntKind.wrap, IntKind.signed, IntKind.bits]; omega
        clear ca cb lA lC hA hC sA sC x0 x1 d0 d1
        have nn : Nonempty (KW wr) := ⟨⟨wr, Kept.refl wr⟩⟩
        refine wp_region_kept (by kernel_rfl) (by kernel_rfl) ?_
        repeat (go_big_quiet_step ((go_at_call 38; first | (with_reducible exact KW.calls _ (CA.out _)) | (with_reducible exact KW.calls _ (CB.out _)))))
        refine wpQuiet_nil ?_
        intro w6 hw6
        have kk6 : Kept w2 w6 := by
          obtain ⟨p, rfl⟩ := hw6
          exact HK.out.trans p.h
        clear hw6 nn s0 s1 u1 u2
        go_wp2
        go_roundw
        case rel =>
          refine ⟨k + 1, P ++ (A ++ C), by omega, by go_num, rfl, by rw [ByteArray.size_append, ByteArray.size_append]; omega, ?_, kk6⟩
          rw [ByteArray.data_append, Array.toList_append, ByteArray.data_append, Array.toList_append, HP.out, ← toList_eq A, ← toList_eq C, LA.out, LC.out, Hnx.out]
        case measure => simp [intOf]; omega
      · obtain rfl : k = n := by omega
        go_wp2
        go_ret
        refine ⟨?_, HK2.out.trans HK.out⟩
        rw [Hput.out, ← mrow_all, ← Hn.out, ← HP.out]
        simp [str]
  · have Hput : Hid (Ev.mput ms = []) := by show _ = _; rw [Ev.mput, if_neg hs]
    rw [Bool.not_eq_true] at hs
    rw [hs]
    have HK1 := Lib.hid k1
    clear hs k1
    go_wp2
    go_ret
    exact ⟨by rw [Hput.out]; rfl, HK1.out⟩

set_option maxHeartbeats 1000000 in
set_option maxRecDepth 100000 in
theorem equal_any (av bv : Option Addr) (ca cb : Nat) (ms : List Ev.M) (w : World) (h : MkS w av ca ms) (h' : MkS w bv cb ms) :
    Calls Tryd.prog 26 #[.slice av ms.length ca, .slice bv ms.length cb] w fun r w' => r = .returned (.bool true) ∧ Kept w w' := by
  obtain ⟨h1, h2, h3, h4⟩ := h
  obtain ⟨g1, g2, _, g4⟩ := h'
  obtain ⟨n, hn⟩ : ∃ n, n = ms.length := ⟨_, rfl⟩
  rw [← hn] at h1 g1 ⊢
  have Hn := Lib.hid hn
  have H3 := Lib.hid h3
  have H4 := Lib.hid h4
  have G4 := Lib.hid g4
  clear hn h3 h4 g4
  go_enter Tryd.func26, Tryd.ntmps26
  go_wp2
  go_loopw [5] (fun i wr => ∃ k : Nat, k ≤ n ∧ i = .int .i64 k ∧ Kept w wr) (fun i _ => n - (intOf i).toNat)
  case atStart => exact ⟨0, by omega, rfl, Kept.refl _⟩
  case round =>
    obtain ⟨k, hk, rfl, hkk⟩ := hrel
    have HK := Lib.hid hkk
    by_cases hlt : k < n
    · have hkl : k < ms.length := by rw [← Hn.out]; exact hlt
      obtain ⟨⟨mo, ms_⟩, hm⟩ : ∃ m, ms[k] = m := ⟨_, rfl⟩
      rcases H4.out with h0 | ⟨b, off, rfl, hbl, hc⟩
      · rw [h0] at hkl; simp at hkl
      rcases G4.out with h0 | ⟨b2, off2, rfl, hbl2, hc2⟩
      · rw [h0] at hkl; simp at hkl
      have hcc := hc k ⟨mo, ms_⟩ (by rw [List.getElem?_eq_getElem hkl, hm])
      have hcc2 := hc2 k ⟨mo, ms_⟩ (by rw [List.getElem?_eq_getElem hkl, hm])
      have d0 : wr.cell? ⟨b, off + k * 2, none⟩ = some (.int .i64 mo) := (Below.cell hkk (p := ⟨b, off + k * 2, none⟩) hbl).trans hcc.1
      have d1 : wr.cell? ⟨b, off + k * 2 + 1, none⟩ = some (.int .i64 ms_) := (Below.cell hkk (p := ⟨b, off + k * 2 + 1, none⟩) hbl).trans hcc.2
      have d2 : wr.cell? ⟨b2, off2 + k * 2, none⟩ = some (.int .i64 mo) := (Below.cell hkk (p := ⟨b2, off2 + k * 2, none⟩) hbl2).trans hcc2.1
      have d3 : wr.cell? ⟨b2, off2 + k * 2 + 1, none⟩ = some (.int .i64 ms_) := (Below.cell hkk (p := ⟨b2, off2 + k * 2 + 1, none⟩) hbl2).trans hcc2.2
      have t0 := KW.cell d0
      have t1 := KW.cell d1
      have t2 := KW.cell d2
      have t3 := KW.cell d3
      have hki : (k : Int) < (n : Int) := by omega
      clear hcc hcc2 hc hc2 hm d0 d1 d2 d3
      go_wp2_with fail
      have nn : Nonempty (KW wr) := ⟨⟨wr, Kept.refl wr⟩⟩
      refine wp_region_kept (by kernel_rfl) (by kernel_rfl) ?_
      repeat (go_big_quiet_step (fail))
      refine wpQuiet_nil ?_
      intro w6 hw6
      have kk6 : Kept w w6 := by
        obtain ⟨p, rfl⟩ := hw6
        exact HK.out.trans p.h
      clear hw6 nn t0 t1 t2 t3
      go_wp2
      go_roundw
      case rel => exact ⟨k + 1, by omega, by go_num, kk6⟩
      case measure => simp [intOf]; omega
    · obtain rfl : k = n := by omega
      clear hkk
      go_wp2
      go_ret
      exact ⟨rfl, HK.out⟩
end Go.Proofs.YtbenjenifklejaaDoor
