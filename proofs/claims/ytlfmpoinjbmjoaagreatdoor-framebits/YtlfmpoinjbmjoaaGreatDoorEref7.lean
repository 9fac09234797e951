/-
  The document's own: the walk of rivuletref06.Cut.
-/
import Derived.Test.YtlfmpoinjbmjoaaGreatDoorEmark
import Derived.Test.YtlfmpoinjbmjoaaGreatDoorEref
import Derived.Test.YtlfmpoinjbmjoaaGreatDoorVref2
import Derived.Test.YtlfmpoinjbmjoaaGreatDoorEcutw
import Derived.Test.YtlfmpoinjbmjoaaGreatDoorVref4
import Derived.Deep.AppendLies
import Derived.RangeFuncBox
import Derived.Test.YtlfmpoinjbmjoaaGreatDoorEown
import Derived.Deep.RegionLaw
namespace Go.Proofs.YtlfmpoinjbmjoaaGreatDoor
open Go.ChangeShapes Go.WideShapes Go.ChangeAt Go.RowKit

/-- the least Origin that the mark at a place may have -/
def plo (ms : List Ev.M) : Nat → Int
  | 0 => 0
  | j + 1 => (ms[j]?.map fun m => m.o + 1).getD 0
theorem plo_succ (ms : List Ev.M) (j : Nat) (h : j < ms.length) : plo ms (j + 1) = ms[j].o + 1 := by simp [plo, h]

set_option maxHeartbeats 2000000 in
set_option maxRecDepth 100000 in
theorem rsorted_any (av : Option Addr) (cap : Nat) (ms : List Ev.M) (w : World) (h : MkS w av cap ms) :
    Calls Tryz.prog 26 #[.slice av ms.length cap] w fun r w' => r = .returned (.bool (Ev.sorted ms)) ∧ Kept w w' := by
  obtain ⟨h1, h2, h3, h4⟩ := h
  obtain ⟨n, hn⟩ : ∃ n, n = ms.length := ⟨_, rfl⟩
  rw [← hn] at h1 ⊢
  have Hn := Lib.hid hn
  have H3 := Lib.hid h3
  have H4 := Lib.hid h4
  clear hn h3 h4
  have hfalse : Ev.srt 0 ms = false → Ev.sorted ms = false := fun h => by rw [Ev.sorted, h]; simp
  have Hfalse := Lib.hid hfalse
  clear hfalse
  go_enter Tryz.func26, Tryz.ntmps26
  go_wp2
  go_loopw [3] (fun i wr => ∃ k : Nat, k ≤ n ∧ i = .int .i64 k ∧ Hid (0 ≤ plo ms k ∧ Ev.srt 0 ms = Ev.srt (plo ms k) (ms.drop k)) ∧ Kept w wr) (fun i _ => n - (intOf i).toNat)
  case atStart => exact ⟨0, by omega, rfl, ⟨by simp [plo], rfl⟩, Kept.refl _⟩
  case round =>
    obtain ⟨k, hk, rfl, HE, hkk⟩ := hrel
    have HK := Lib.hid hkk
    by_cases hlt : k < n
    · have hkl : k < ms.length := by rw [← Hn.out]; exact hlt
      obtain ⟨⟨mo, ms_⟩, hm⟩ : ∃ m, ms[k] = m := ⟨_, rfl⟩
      have hst := srt_step ms k (plo ms k) hkl
      have hpk := plo_succ ms k hkl
      rw [hm] at hst hpk
      simp only at hpk
      have Hst := Lib.hid hst
      have Hpk := Lib.hid hpk
      have hf : mfit ⟨mo, ms_⟩ := by rw [← hm]; exact H3.out _ (List.getElem_mem hkl)
      rcases H4.out with h0 | ⟨b, off, rfl, hbl, hc⟩
      · rw [h0] at hkl; simp at hkl
      have hcc := hc k ⟨mo, ms_⟩ (by rw [List.getElem?_eq_getElem hkl, hm])
      have d0 : wr.cell? ⟨b, off + k * 2, none⟩ = some (.int .i64 mo) := (Below.cell hkk (p := ⟨b, off + k * 2, none⟩) hbl).trans hcc.1
      have d1 : wr.cell? ⟨b, off + k * 2 + 1, none⟩ = some (.int .i64 ms_) := (Below.cell hkk (p := ⟨b, off + k * 2 + 1, none⟩) hbl).trans hcc.2
      obtain ⟨⟨f0, f1⟩, f2, f3⟩ := hf
      simp only at f0 f1 f2 f3
      have t0 := KW.cell d0
      have t1 := KW.cell d1
      have HC := Lib.hid hc
      have hki : (k : Int) < (n : Int) := by omega
      clear hst hcc hc hm d0 d1 hpk
      by_cases q1 : 0 ≤ mo ∧ mo ≤ 1099511627776
      · have ca : ∀ p : KW wr, Calls Tryz.prog 49 #[.int .i64 mo, .int .i64 0, .int .i64 1099511627776] p.v fun r w' => r = .returned (.bool true) ∧ Kept p.v w' := fun p => (rin_yes mo 0 1099511627776 p.v q1).mono fun _ _ ⟨h, e⟩ => ⟨h, e ▸ Kept.refl _⟩
        have CA := Lib.hid ca
        clear ca
        by_cases q2 : 1 ≤ ms_ ∧ ms_ ≤ 1099511627776
        · have cb : ∀ p : KW wr, Calls Tryz.prog 49 #[.int .i64 ms_, .int .i64 1, .int .i64 1099511627776] p.v fun r w' => r = .returned (.bool true) ∧ Kept p.v w' := fun p => (rin_yes ms_ 1 1099511627776 p.v q2).mono fun _ _ ⟨h, e⟩ => ⟨h, e ▸ Kept.refl _⟩
          have CB := Lib.hid cb
          clear cb
          by_cases hk0 : k = 0
          · have HN : Hid (0 ≤ plo ms (k + 1) ∧ Ev.srt 0 ms = Ev.srt (plo ms (k + 1)) (ms.drop (k + 1))) := by
              refine ⟨by rw [Hpk.out]; omega, ?_⟩
              rw [HE.out.2, Hst.out, Hpk.out]
              have : plo ms k = 0 := by rw [hk0]; rfl
              rw [this]
              simp [q1, q2]
            have hk0' : ¬ (0 < k) := by omega
            clear hk0
            go_wp2_with fail
            have nn : Nonempty (KW wr) := ⟨⟨wr, Kept.refl wr⟩⟩
            refine wp_region_kept (by kernel_rfl) (by kernel_rfl) ?_
            repeat (go_big_quiet_step ((go_at_call 49; first | (with_reducible exact KW.calls _ (CA.out _)) | (with_reducible exact KW.calls _ (CB.out _)))))
            refine wpQuiet_nil ?_
            intro w6 hw6
            have kk6 : Kept w w6 := by
              obtain ⟨p, rfl⟩ := hw6
              exact HK.out.trans p.h
            clear hw6 nn t0 t1
            go_wp2
            go_roundw
            case rel => exact ⟨k + 1, by omega, by go_num, HN, kk6⟩
            case measure => simp [intOf]; omega
          · obtain ⟨j, hj⟩ : ∃ j, k = j + 1 := ⟨k - 1, by omega⟩
            have hk0' : 0 < k := by omega
            have hw1 : IntKind.i64.wrap ((k : Int) - 1) = (j : Int) := by rw [IntKind.wrap_i64]; omega
            have hjl : j < ms.length := by omega
            obtain ⟨⟨po, ps⟩, hp⟩ : ∃ m, ms[j] = m := ⟨_, rfl⟩
            have hpj : plo ms k = po + 1 := by rw [hj, plo_succ ms j hjl, hp]
            have hfp : mfit ⟨po, ps⟩ := by rw [← hp]; exact H3.out _ (List.getElem_mem hjl)
            have hcp := HC.out j ⟨po, ps⟩ (by rw [List.getElem?_eq_getElem hjl, hp])
            have e0 : wr.cell? ⟨b, off + j * 2, none⟩ = some (.int .i64 po) := (Below.cell hkk (p := ⟨b, off + j * 2, none⟩) hbl).trans hcp.1
            have t2 := KW.cell e0
            have hji : (j : Int) < (n : Int) := by omega
            obtain ⟨⟨g0, g1⟩, _, _⟩ := hfp
            simp only at g0 g1
            have Hpj := Lib.hid hpj
            clear hcp e0 hp hj hpj hk0
            by_cases q3 : po < mo
            · have HN : Hid (0 ≤ plo ms (k + 1) ∧ Ev.srt 0 ms = Ev.srt (plo ms (k + 1)) (ms.drop (k + 1))) := by
                refine ⟨by rw [Hpk.out]; omega, ?_⟩
                rw [HE.out.2, Hst.out, Hpk.out, Hpj.out]
                simp only [q1, q2, decide_true, Bool.true_and, decide_eq_true (show po + 1 ≤ mo by omega)]
              have q3' : decide (mo ≤ po) = false := by simpa using q3
              clear q3
              go_wp2_with fail
              have nn : Nonempty (KW wr) := ⟨⟨wr, Kept.refl wr⟩⟩
              refine wp_region_kept (by kernel_rfl) (by kernel_rfl) ?_
              repeat (go_big_quiet_step ((go_at_call 49; first | (with_reducible exact KW.calls _ (CA.out _)) | (with_reducible exact KW.calls _ (CB.out _)))))
              refine wpQuiet_nil ?_
              intro w6 hw6
              have kk6 : Kept w w6 := by
                obtain ⟨p, rfl⟩ := hw6
                exact HK.out.trans p.h
              clear hw6 nn t0 t1 t2 q3' hw1
              go_wp2
              go_roundw
              case rel => exact ⟨k + 1, by omega, by go_num, HN, kk6⟩
              case measure => simp [intOf]; omega
            · have HN : Hid (Ev.sorted ms = false) := by
                refine Hfalse.out ?_
                rw [HE.out.2, Hst.out, Hpj.out, decide_eq_false (show ¬ po + 1 ≤ mo by omega)]
                rfl
              have q3' : decide (mo ≤ po) = true := by simp; omega
              have q4 : mo ≤ po := by omega
              clear q3
              go_wp2_with fail
              have nn : Nonempty (KW wr) := ⟨⟨wr, Kept.refl wr⟩⟩
              refine wp_region_kept (by kernel_rfl) (by kernel_rfl) ?_
              repeat (go_big_quiet_step ((go_at_call 49; first | (with_reducible exact KW.calls _ (CA.out _)) | (with_reducible exact KW.calls _ (CB.out _)))))
              refine wpQuiet_nil ?_
              intro w6 hw6
              have kk6 : Kept w w6 := by
                obtain ⟨p, rfl⟩ := hw6
                exact HK.out.trans p.h
              clear hw6 nn t0 t1 t2 q3' hw1
              go_wp2
              go_ret
              exact ⟨by rw [HN.out]; rfl, kk6⟩
        · have cb : ∀ p : KW wr, Calls Tryz.prog 49 #[.int .i64 ms_, .int .i64 1, .int .i64 1099511627776] p.v fun r w' => r = .returned (.bool false) ∧ Kept p.v w' := fun p => (rin_no ms_ 1 1099511627776 p.v q2).mono fun _ _ ⟨h, e⟩ => ⟨h, e ▸ Kept.refl _⟩
          have CB := Lib.hid cb
          clear cb
          have HN : Hid (Ev.sorted ms = false) := by
            refine Hfalse.out ?_
            rw [HE.out.2, Hst.out, ← Bool.not_eq_true]
            simp only [Bool.and_eq_true, decide_eq_true_eq]
            exact fun h => q2 h.1.2
          go_wp2_with fail
          have nn : Nonempty (KW wr) := ⟨⟨wr, Kept.refl wr⟩⟩
          refine wp_region_kept (by kernel_rfl) (by kernel_rfl) ?_
          repeat (go_big_quiet_step ((go_at_call 49; first | (with_reducible exact KW.calls _ (CA.out _)) | (with_reducible exact KW.calls _ (CB.out _)))))
          refine wpQuiet_nil ?_
          intro w6 hw6
          have kk6 : Kept w w6 := by
            obtain ⟨p, rfl⟩ := hw6
            exact HK.out.trans p.h
          clear hw6 nn t0 t1
          go_wp2
          go_ret
          exact ⟨by rw [HN.out]; rfl, kk6⟩
      · have ca : ∀ p : KW wr, Calls Tryz.prog 49 #[.int .i64 mo, .int .i64 0, .int .i64 1099511627776] p.v fun r w' => r = .returned (.bool false) ∧ Kept p.v w' := fun p => (rin_no mo 0 1099511627776 p.v q1).mono fun _ _ ⟨h, e⟩ => ⟨h, e ▸ Kept.refl _⟩
        have CA := Lib.hid ca
        clear ca
        have HN : Hid (Ev.sorted ms = false) := by
          refine Hfalse.out ?_
          rw [HE.out.2, Hst.out, ← Bool.not_eq_true]
          simp only [Bool.and_eq_true, decide_eq_true_eq]
          intro h
          have := HE.out.1
          exact q1 ⟨by omega, h.1.1.2⟩
        go_wp2_with fail
        have nn : Nonempty (KW wr) := ⟨⟨wr, Kept.refl wr⟩⟩
        refine wp_region_kept (by kernel_rfl) (by kernel_rfl) ?_
        repeat (go_big_quiet_step ((go_at_call 49; first | (with_reducible exact KW.calls _ (CA.out _)))))
        refine wpQuiet_nil ?_
        intro w6 hw6
        have kk6 : Kept w w6 := by
          obtain ⟨p, rfl⟩ := hw6
          exact HK.out.trans p.h
        clear hw6 nn t0 t1
        go_wp2
        go_ret
        exact ⟨by rw [HN.out]; rfl, kk6⟩
    · obtain rfl : k = n := by omega
      have HN : Hid (Ev.sorted ms = decide (k ≤ 32)) := by
        show _ = _
        rw [Ev.sorted, HE.out.2, List.drop_of_length_le (by rw [← Hn.out]; exact Nat.le_refl _), ← Hn.out]
        simp [Ev.srt]
      clear hkk
      go_wp2
      go_ret
      refine ⟨?_, HK.out⟩
      rw [HN.out]
      show Ending.returned (.bool (decide ((k : Int) ≤ 32))) = _
      congr 2
      exact decide_eq_decide.2 (by omega)
end Go.Proofs.YtlfmpoinjbmjoaaGreatDoor

namespace Go.Proofs.YtlfmpoinjbmjoaaGreatDoor
open Go.ChangeShapes Go.WideShapes Go.ChangeAt Go.RowKit

set_option maxHeartbeats 1000000 in
set_option maxRecDepth 100000 in
theorem rmarks_any (av : Option Addr) (cap : Nat) (ms : List Ev.M) (w : World) (h : MkS w av cap ms) :
    Calls Tryz.prog 32 #[.slice av ms.length cap] w fun r w' => r = .returned (str (Ev.mput ms)) ∧ Kept w w' := by
  have HM := Lib.hid h
  obtain ⟨h1, h2, _, _⟩ := h
  obtain ⟨n, hn⟩ : ∃ n, n = ms.length := ⟨_, rfl⟩
  have hso := rsorted_any av cap ms w HM.out
  rw [← hn] at h1 hso ⊢
  have Hn := Lib.hid hn
  have Hso := Lib.hid hso
  clear hn hso
  go_enter Tryz.func32, Tryz.ntmps32
  go_wp2_with fail
  refine Hso.out.mono ?_
  rintro r w1 ⟨rfl, k1⟩
  by_cases hs : Ev.sorted ms = true
  · have Hput : Hid (Ev.mput ms = Ev.mbytes ms) := by show _ = _; rw [Ev.mput, if_pos hs]
    rw [hs]
    have hs2 := (Ev.sorted_iff ms).1 hs
    rw [← Hn.out] at hs2
    obtain ⟨hs3, hs4⟩ := hs2
    have Hall := Lib.hid (Ev.srt_all ms 0 (Int.le_refl _) hs4)
    have HK1 := Lib.hid k1
    clear hs hs4 k1
    go_wp2_with fail
    refine (refput_any _ _ (by omega) (by omega)).mono ?_
    rintro r w2 ⟨rfl, k2⟩
    rw [Int.toNat_natCast]
    obtain ⟨P0, hP0, sP0, lP0⟩ := name_put n
    rw [hP0]
    have hz := Vn.vsz_pos n
    rw [← sP0] at hz
    have HK2 := Lib.hid (HK1.out.trans k2)
    have LP0 := Lib.hid lP0
    have HM2 := Lib.hid (HM.out.kept HK2.out)
    clear k2 lP0 hP0 sP0
    go_wp2
    go_loopw [3, 4] (fun out i wr => ∃ (k : Nat) (P : ByteArray), k ≤ n ∧ i = .int .i64 k ∧ out = .string P ∧ P.size ≤ 9 + 18 * k ∧ P.data.toList = mrow ms k ∧ Kept w2 wr) (fun _ i _ => n - (intOf i).toNat)
    case atStart => exact ⟨0, P0, by omega, rfl, rfl, by omega, by rw [← toList_eq, LP0.out, mrow, ← Hn.out]; simp [Ev.mits], Kept.refl _⟩
    case round =>
      obtain ⟨k, P, hk, rfl, rfl, hPs, hP, hkk⟩ := hrel
      have HK := Lib.hid hkk
      have HP := Lib.hid hP
      have HMr := Lib.hid (HM2.out.kept hkk)
      clear hP hkk
      by_cases hlt : k < n
      · have hkl : k < ms.length := by rw [← Hn.out]; exact hlt
        have hnx := mrow_next ms k hkl
        have hall := Hall.out ms[k] (List.getElem_mem hkl)
        obtain ⟨⟨mo, ms_⟩, hm⟩ : ∃ m, ms[k] = m := ⟨_, rfl⟩
        rw [hm] at hnx hall
        simp only at hnx hall
        obtain ⟨q1, q2, q3, q4⟩ := hall
        rcases HMr.out.at_ with h0 | ⟨b, off, rfl, hbl, hc⟩
        · rw [h0] at hkl; simp at hkl
        obtain ⟨d0, d1⟩ := hc k ⟨mo, ms_⟩ (by rw [List.getElem?_eq_getElem hkl, hm])
        simp only at d0 d1
        have Hnx := Lib.hid hnx
        clear hnx hm hc
        go_wp2_with fail
        have x0 := d0
        have x1 := d1
        have s0 := KW.cell x0
        have s1 := KW.cell x1
        obtain ⟨A, hA, sA, lA⟩ := name_put mo.toNat
        obtain ⟨C, hC, sC, lC⟩ := name_put ms_.toNat
        have zA := Vn.vsz_pos mo.toNat
        have zC := Vn.vsz_pos ms_.toNat
        rw [← sA] at zA
        rw [← sC] at zC
        have ca : ∀ p : KW wr, Calls Tryz.prog 31 #[.int .u64 mo] p.v fun r w' => r = .returned (.string A) ∧ Kept p.v w' := fun p => by
          have := refput_any mo p.v q1 (by omega)
          rwa [hA] at this
        have cb : ∀ p : KW wr, Calls Tryz.prog 31 #[.int .u64 ms_] p.v fun r w' => r = .returned (.string C) ∧ Kept p.v w' := fun p => by
          have := refput_any ms_ p.v (by omega) (by omega)
          rwa [hC] at this
        have CA := Lib.hid ca
        have CB := Lib.hid cb
        have LA := Lib.hid lA
        have LC := Lib.hid lC
        have hq3 : 0 ≤ ms_ := by omega
        have hki : (k : Int) < (n : Int) := by omega
        have u1 : IntKind.u64.wrap mo = mo := by simp [IntKind.wrap, IntKind.signed, IntKind.bits]; omega
        have u2 : IntKind.u64.wrap ms_ = ms_ := by simp [IntKind.wrap, IntKind.signed, IntKind.bits]; omega
        clear ca cb lA lC hA hC sA sC x0 x1 d0 d1
        have nn : Nonempty (KW wr) := ⟨⟨wr, Kept.refl wr⟩⟩
        refine wp_region_kept (by kernel_rfl) (by kernel_rfl) ?_
        repeat (go_big_quiet_step ((go_at_call 31; first | (with_reducible exact KW.calls _ (CA.out _)) | (with_reducible exact KW.calls _ (CB.out _)))))
        refine wpQuiet_nil ?_
        intro w6 hw6
        have kk6 : Kept w2 w6 := by
          obtain ⟨p, rfl⟩ := hw6
          exact HK.out.trans p.h
        clear hw6 nn s0 s1 u1 u2
        go_wp2
        go_roundw
        case rel =>
          refine ⟨k + 1, P ++ (A ++ C), by omega, by go_num, rfl, by rw [ByteArray.size_append, ByteArray.size_append]; omega, ?_, kk6⟩
          rw [ByteArray.data_append, Array.toList_append, ByteArray.data_append, Array.toList_append, HP.out, ← toList_eq A, ← toList_eq C, LA.out, LC.out, Hnx.out]
        case measure => simp [intOf]; omega
      · obtain rfl : k = n := by omega
        go_wp2
        go_ret
        refine ⟨?_, HK2.out.trans HK.out⟩
        rw [Hput.out, ← mrow_all, ← Hn.out, ← HP.out]
        simp [str]
  · have Hput : Hid (Ev.mput ms = []) := by show _ = _; rw [Ev.mput, if_neg hs]
    rw [Bool.not_eq_true] at hs
    rw [hs]
    have HK1 := Lib.hid k1
    clear hs k1
    go_wp2
    go_ret
    exact ⟨by rw [Hput.out]; rfl, HK1.out⟩

set_option maxHeartbeats 1000000 in
set_option maxRecDepth 100000 in
theorem equal_any (av bv : Option Addr) (ca cb : Nat) (ms : List Ev.M) (w : World) (h : MkS w av ca ms) (h' : MkS w bv cb ms) :
    Calls Tryz.prog 39 #[.slice av ms.length ca, .slice bv ms.length cb] w fun r w' => r = .returned (.bool true) ∧ Kept w w' := by
  obtain ⟨h1, h2, h3, h4⟩ := h
  obtain ⟨g1, g2, _, g4⟩ := h'
  obtain ⟨n, hn⟩ : ∃ n, n = ms.length := ⟨_, rfl⟩
  rw [← hn] at h1 g1 ⊢
  have Hn := Lib.hid hn
  have H3 := Lib.hid h3
  have H4 := Lib.hid h4
  have G4 := Lib.hid g4
  clear hn h3 h4 g4
  go_enter Tryz.func39, Tryz.ntmps39
  go_wp2
  go_loopw [5] (fun i wr => ∃ k : Nat, k ≤ n ∧ i = .int .i64 k ∧ Kept w wr) (fun i _ => n - (intOf i).toNat)
  case atStart => exact ⟨0, by omega, rfl, Kept.refl _⟩
  case round =>
    obtain ⟨k, hk, rfl, hkk⟩ := hrel
    have HK := Lib.hid hkk
    by_cases hlt : k < n
    · have hkl : k < ms.length := by rw [← Hn.out]; exact hlt
      obtain ⟨⟨mo, ms_⟩, hm⟩ : ∃ m, ms[k] = m := ⟨_, rfl⟩
      rcases H4.out with h0 | ⟨b, off, rfl, hbl, hc⟩
      · rw [h0] at hkl; simp at hkl
      rcases G4.out with h0 | ⟨b2, off2, rfl, hbl2, hc2⟩
      · rw [h0] at hkl; simp at hkl
      have hcc := hc k ⟨mo, ms_⟩ (by rw [List.getElem?_eq_getElem hkl, hm])
      have hcc2 := hc2 k ⟨mo, ms_⟩ (by rw [List.getElem?_eq_getElem hkl, hm])
      have d0 : wr.cell? ⟨b, off + k * 2, none⟩ = some (.int .i64 mo) := (Below.cell hkk (p := ⟨b, off + k * 2, none⟩) hbl).trans hcc.1
      have d1 : wr.cell? ⟨b, off + k * 2 + 1, none⟩ = some (.int .i64 ms_) := (Below.cell hkk (p := ⟨b, off + k * 2 + 1, none⟩) hbl).trans hcc.2
      have d2 : wr.cell? ⟨b2, off2 + k * 2, none⟩ = some (.int .i64 mo) := (Below.cell hkk (p := ⟨b2, off2 + k * 2, none⟩) hbl2).trans hcc2.1
      have d3 : wr.cell? ⟨b2, off2 + k * 2 + 1, none⟩ = some (.int .i64 ms_) := (Below.cell hkk (p := ⟨b2, off2 + k * 2 + 1, none⟩) hbl2).trans hcc2.2
      have t0 := KW.cell d0
      have t1 := KW.cell d1
      have t2 := KW.cell d2
      have t3 := KW.cell d3
      have hki : (k : Int) < (n : Int) := by omega
      clear hcc hcc2 hc hc2 hm d0 d1 d2 d3
      go_wp2_with fail
      have nn : Nonempty (KW wr) := ⟨⟨wr, Kept.refl wr⟩⟩
      refine wp_region_kept (by kernel_rfl) (by kernel_rfl) ?_
      repeat (go_big_quiet_step (fail))
      refine wpQuiet_nil ?_
      intro w6 hw6
      have kk6 : Kept w w6 := by
        obtain ⟨p, rfl⟩ := hw6
        exact HK.out.trans p.h
      clear hw6 nn t0 t1 t2 t3
      go_wp2
      go_roundw
      case rel => exact ⟨k + 1, by omega, by go_num, kk6⟩
      case measure => simp [intOf]; omega
    · obtain rfl : k = n := by omega
      clear hkk
      go_wp2
      go_ret
      exact ⟨rfl, HK.out⟩
end Go.Proofs.YtlfmpoinjbmjoaaGreatDoor

namespace Go.Proofs.YtlfmpoinjbmjoaaGreatDoor
open Go.ChangeShapes Go.WideShapes Go.ChangeAt Go.RowKit

/-- rows of numbers of the call's own -/
def OwnNs (w : World) (base : Nat) (v : Value) (xs : List Nat) : Prop := w.ownsRow base 3 1 v xs.length (xs.map fun x => Value.int .i64 (Ev.clip x))
theorem infoInt : (Tryz.prog.info? 3).map (fun i => (i.zero, i.size, i.bytes)) = some (some (.int .i64 0), 1, 8) := by kernel_rfl

/-- the numbers that things are -/
def numsOf : List Ev.It → List Nat
  | [] => []
  | .n k :: r => k :: numsOf r
  | .t _ :: r => 0 :: numsOf r
theorem numsOf_snoc : ∀ (xs : List Ev.It) (k : Nat), numsOf (xs ++ [.n k]) = numsOf xs ++ [k]
  | [], _ => rfl
  | .n _ :: r, k => by simp [numsOf, numsOf_snoc r k]
  | .t _ :: r, k => by simp [numsOf, numsOf_snoc r k]
theorem numsOf_length : ∀ xs : List Ev.It, (numsOf xs).length = xs.length
  | [] => rfl
  | .n _ :: r => by simp [numsOf, numsOf_length r]
  | .t _ :: r => by simp [numsOf, numsOf_length r]

/-- what nums answers -/
def NumRes (w : World) (x : List Ev.It × Int × Nat) (r : Ending) (w' : World) : Prop :=
  if x.2.2 = 0 then ∃ v, r = .returned (.tuple #[v, .int .i64 x.2.1, .int .i64 0]) ∧ OwnNs w' w.heap.size v (numsOf x.1) ∧ Kept w w'
  else r = .returned (.tuple #[.slice none 0 0, .int .i64 0, .int .i64 x.2.2]) ∧ Kept w w'

theorem rep_snoc (k : Nat) : List.replicate (k + 1) true = List.replicate k true ++ [true] := List.replicate_succ'
theorem igets_rep (l : List UInt8) (a : Int) (k : Nat) : Ev.igets (List.replicate (k + 1) true) l a = Ev.istep l (Ev.igets (List.replicate k true) l a) true := by rw [rep_snoc, Ev.igets_snoc]
theorem igets_over (l : List UInt8) (a : Int) (k m : Nat) (hk : k ≤ m) (h : (Ev.igets (List.replicate k true) l a).2.2 ≠ 0) : Ev.igets (List.replicate m true) l a = Ev.igets (List.replicate k true) l a := by
  rw [show m = k + (m - k) by omega, ← List.replicate_append_replicate]
  exact Ev.igets_more _ _ l a h
theorem igets_len (l : List UInt8) (a : Int) : ∀ k, (Ev.igets (List.replicate k true) l a).2.2 = 0 → (Ev.igets (List.replicate k true) l a).1.length = k
  | 0, _ => rfl
  | k + 1, h => by
    rw [igets_rep] at h ⊢
    obtain ⟨h0, _, e⟩ := Ev.istep_list l _ true h
    rw [e, List.length_append, igets_len l a k h0]
    rfl

theorem own_ints (w : World) : OwnNs (w.alloc (.cells #[] 3)) w.heap.size (.slice (some ⟨w.heap.size, 0, none⟩) 0 0) [] :=
  ⟨rfl, .inr ⟨w.heap.size, 0, #[], rfl, Nat.le_refl _, heap_alloc_new w _, Nat.le_refl _, Nat.zero_le _, rfl, rfl⟩⟩
theorem int_cell (w : World) (x : Int) : ∀ (j : Nat) (u : Value), [Value.int .i64 x][j]? = some u → (w.alloc (.cells #[.int .i64 x] 3)).cell? ((⟨w.heap.size, 0, none⟩ : Addr).add j) = some u := by
  intro j u hj
  match j, hj with
  | 0, hj => simp at hj; subst hj; simp [Addr.add]
theorem int_one (x : Int) : ∀ u ∈ [Value.int .i64 x], u.oneCell' = true := by
  intro u hu; simp at hu; subst hu; rfl

set_option maxHeartbeats 2000000 in
set_option maxRecDepth 100000 in
theorem nums_any (s : ByteArray) (a : Int) (m : Nat) (w : World) (hs : s.size ≤ 1000) (h1 : -9223372036854775808 ≤ a) (h2 : a ≤ 9223372036854775807) (hm : m ≤ 64) :
    Calls Tryz.prog 81 #[.string s, .int .i64 a, .int .i64 m] w (NumRes w (Ev.igets (List.replicate m true) s.data.toList a)) := by
  obtain ⟨i0, hi, hz0, hz1, hz2⟩ := info_parts infoInt
  have Hi := Lib.hid hi
  have Hz0 := Lib.hid hz0
  have Hz1 := Lib.hid hz1
  have Hz2 := Lib.hid hz2
  have Hsl := Lib.hid (size_len s)
  clear hi hz0 hz1 hz2
  go_enter Tryz.func81, Tryz.ntmps81
  go_wp2
  go_loopw [1, 9, 10, 11, 12, 13] (fun av ov iv _ _ _ wr => ∃ (k : Nat) (its : List Ev.It) (at_ : Int), k ≤ m ∧ av = .int .i64 at_ ∧ iv = .int .i64 k ∧ Hid (Ev.igets (List.replicate k true) s.data.toList a = (its, at_, 0)) ∧ OwnNs wr w.heap.size ov (numsOf its) ∧ Kept w wr) (fun _ _ iv _ _ _ _ => m - (intOf iv).toNat)
  case atStart => exact ⟨0, [], a, by omega, rfl, rfl, rfl, own_ints w, Kept.alloc (Kept.refl w) _⟩
  case round =>
    obtain ⟨k, its, at_, hk, rfl, rfl, HG, hown, kr⟩ := hrel
    have hlen := igets_len s.data.toList a k (by rw [HG.out])
    rw [HG.out] at hlen
    simp only at hlen
    have hnl := numsOf_length its
    rw [hlen] at hnl
    have hfair : Fair (Ev.igets (List.replicate k true) s.data.toList a) := fold_fair _ (by rw [Hsl.out]; omega) _ _ ⟨h1, h2, Nat.zero_le _⟩
    rw [HG.out] at hfair
    obtain ⟨q0, q1, _⟩ := hfair
    simp only at q0 q1
    have Hlen := Lib.hid hnl
    clear hlen hnl
    by_cases hlt : k < m
    · have hki : (k : Int) < (m : Int) := by omega
      have hst := igets_rep s.data.toList a k
      rw [HG.out] at hst
      have hle := vget_le s.data.toList at_
      obtain ⟨⟨n, t, e⟩, hv⟩ : ∃ x, x = vget s.data.toList at_ := ⟨_, rfl⟩
      rw [← hv, Hsl.out] at hle
      obtain ⟨l1, l2, l3⟩ := hle
      simp only at l1 l2 l3
      have Hst := Lib.hid hst
      have Hv := Lib.hid hv
      have HO := Lib.hid hown
      clear hst hv hown
      go_wp2_with fail
      refine (refget_any s at_ _ hs q0 q1).mono ?_
      rintro r w1 ⟨rfl, k1⟩
      rw [← Hv.out]
      unfold tup
      have kr1 := kr.trans k1
      have hown1 := own_kept HO.out k1
      rw [Hlen.out] at hown1
      simp only
      clear k1 kr
      by_cases he : e = 0
      · subst he
        have HNx : Hid (Ev.igets (List.replicate (k + 1) true) s.data.toList a = (its ++ [.n n], (t : Int), 0)) := by
          show _ = _
          rw [Hst.out, Ev.istep_ok _ _ _ _ (.n n) t (by rw [Ev.iget_n, ← Hv.out])]
        by_cases hbig : 1099511627776 < n
        · have Hcl : Hid ((Ev.clip n : Int) = 1099511627777) := by show _ = _; unfold Ev.clip; omega
          go_wp2_with (first
            | (at_builtin; refine wpList_append_own _ rfl _ _ 120 rfl w.heap.size 3 i0 (.int .i64 0) 1 8 Tryz.underlying120 Hi.out Hz0.out Hz1.out Hz2.out rfl (by decide) _ _ _ rfl (World.ownsRow.alloc hown1 _) ⟨w1.heap.size, 0, none⟩ 1 1 [.int .i64 (1099511627777)] rfl rfl (int_cell _ _) (int_one _) (by unfold maxLen; omega) (by omega) (by have := kr1.size; simp; omega) ?_))
          intro v' w3 hown3 hgrow _
          have kr3 : Kept w w3 := kept_grown (kr1.alloc _) hgrow (fun k hk => (World.ownsRow.lt hown1 k hk).1)
          have hown4 : OwnNs w3 w.heap.size v' (numsOf (its ++ [.n n])) := by
            rw [numsOf_snoc]
            unfold OwnNs
            rw [List.length_append, List.length_singleton, List.map_append, List.map_singleton, Hlen.out, Hcl.out]
            exact hown3
          clear hown3 hgrow hown1
          go_wp2
          go_roundw
          case rel => exact ⟨k + 1, its ++ [.n n], t, by omega, by go_num, by go_num, HNx, hown4, kr3⟩
          case measure => simp [intOf]; omega
        · have Hcl : Hid ((Ev.clip n : Int) = n) := by show _ = _; unfold Ev.clip; omega
          go_wp2_with (first
            | (at_builtin; refine wpList_append_own _ rfl _ _ 120 rfl w.heap.size 3 i0 (.int .i64 0) 1 8 Tryz.underlying120 Hi.out Hz0.out Hz1.out Hz2.out rfl (by decide) _ _ _ rfl (World.ownsRow.alloc hown1 _) ⟨w1.heap.size, 0, none⟩ 1 1 [.int .i64 (n)] rfl rfl (int_cell _ _) (int_one _) (by unfold maxLen; omega) (by omega) (by have := kr1.size; simp; omega) ?_))
          intro v' w3 hown3 hgrow _
          have kr3 : Kept w w3 := kept_grown (kr1.alloc _) hgrow (fun k hk => (World.ownsRow.lt hown1 k hk).1)
          have hown4 : OwnNs w3 w.heap.size v' (numsOf (its ++ [.n n])) := by
            rw [numsOf_snoc]
            unfold OwnNs
            rw [List.length_append, List.length_singleton, List.map_append, List.map_singleton, Hlen.out, Hcl.out]
            exact hown3
          clear hown3 hgrow hown1
          go_wp2
          go_roundw
          case rel => exact ⟨k + 1, its ++ [.n n], t, by omega, by go_num, by go_num, HNx, hown4, kr3⟩
          case measure => simp [intOf]; omega
      · have he2 : ((e : Int) == 0) = false := by simp only [beq_eq_false_iff_ne]; omega
        have he3 : ((e : Int) != 0) = true := by simp [bne, he2]
        have HE : Hid (Ev.igets (List.replicate m true) s.data.toList a = ([], 0, e)) := by
          show _ = _
          have h1 : Ev.igets (List.replicate (k + 1) true) s.data.toList a = ([], 0, e) := by
            rw [Hst.out, Ev.istep, if_pos rfl, Ev.iget_n, ← Hv.out, if_neg he]
          rw [igets_over _ _ (k + 1) m (by omega) (by rw [h1]; exact he), h1]
        clear hown1
        go_wp2
        go_ret3
        unfold NumRes
        rw [HE.out, if_neg he]
        exact ⟨rfl, kr1⟩
    · obtain rfl : k = m := by omega
      have HO := Lib.hid hown
      clear hown
      go_wp2
      go_ret3
      unfold NumRes
      rw [HG.out, if_pos rfl]
      exact ⟨_, rfl, HO.out, kr⟩
end Go.Proofs.YtlfmpoinjbmjoaaGreatDoor

namespace Go.Proofs.YtlfmpoinjbmjoaaGreatDoor
open Go.ChangeShapes Go.WideShapes Go.ChangeAt Go.RowKit

theorem igets_three (l : List UInt8) (a : Int) (h : (Ev.igets (List.replicate 3 true) l a).2.2 = 0) : ∃ x y z, (Ev.igets (List.replicate 3 true) l a).1 = [.n x, .n y, .n z] := by
  have e3 := igets_rep l a 2
  have e2 := igets_rep l a 1
  have e1 := igets_rep l a 0
  rw [e3] at h ⊢
  obtain ⟨h2, _, q3⟩ := Ev.istep_list l _ true h
  rw [q3]
  rw [e2] at h2 ⊢
  obtain ⟨h1, _, q2⟩ := Ev.istep_list l _ true h2
  rw [q2]
  rw [e1] at h1 ⊢
  obtain ⟨_, _, q1⟩ := Ev.istep_list l _ true h1
  rw [q1]
  exact ⟨_, _, _, rfl⟩
theorem kinds_three (l : List UInt8) (a : Int) : Ev.igets Ev.kinds l a = Ev.istep l (Ev.istep l (Ev.igets (List.replicate 3 true) l a) false) false :=
  (Ev.igets_snoc [true, true, true, false] false l a).trans (congrArg (fun z => Ev.istep l z false) (Ev.igets_snoc [true, true, true] false l a))
theorem get_bad3 (l : List UInt8) (a : Int) (h : (Ev.igets (List.replicate 3 true) l a).2.2 ≠ 0) : Ev.get l a = (.zero, 0, (Ev.igets (List.replicate 3 true) l a).2.2) := by
  have e : Ev.igets Ev.kinds l a = Ev.igets (List.replicate 3 true) l a := by rw [kinds_three, Ev.istep_bad l _ false h, Ev.istep_bad l _ false h]
  rw [Ev.get, e, if_pos h]
theorem get_bad4 (l : List UInt8) (a : Int) (xs : List Ev.It) (p : Int) (h : Ev.igets (List.replicate 3 true) l a = (xs, p, 0)) (h2 : (vcut l p).2.2 ≠ 0) : Ev.get l a = (.zero, 0, (vcut l p).2.2) := by
  have e4 : Ev.istep l (xs, p, 0) false = ([], 0, (vcut l p).2.2) := by rw [Ev.istep, if_pos rfl, Ev.iget_t, if_neg h2]
  have e : Ev.igets Ev.kinds l a = ([], 0, (vcut l p).2.2) := by rw [kinds_three, h, e4, Ev.istep_bad l _ false h2]
  rw [Ev.get, e, if_pos h2]
theorem get_bad5 (l : List UInt8) (a : Int) (xs : List Ev.It) (p : Int) (t : List UInt8) (q : Nat) (h : Ev.igets (List.replicate 3 true) l a = (xs, p, 0)) (h2 : vcut l p = (t, q, 0)) (h3 : (vcut l q).2.2 ≠ 0) : Ev.get l a = (.zero, 0, (vcut l q).2.2) := by
  have e4 : Ev.istep l (xs, p, 0) false = (xs ++ [.t t], (q : Int), 0) := Ev.istep_ok l xs p false (.t t) q (by rw [Ev.iget_t, h2])
  have e5 : Ev.istep l (xs ++ [.t t], (q : Int), 0) false = ([], 0, (vcut l q).2.2) := by rw [Ev.istep, if_pos rfl, Ev.iget_t, if_neg h3]
  have e : Ev.igets Ev.kinds l a = ([], 0, (vcut l q).2.2) := by rw [kinds_three, h, e4, e5]
  rw [Ev.get, e, if_pos h3]
theorem get_good (l : List UInt8) (a : Int) (x y z : Nat) (p : Int) (t u : List UInt8) (q r : Nat) (h : Ev.igets (List.replicate 3 true) l a = ([.n x, .n y, .n z], p, 0)) (h2 : vcut l p = (t, q, 0)) (h3 : vcut l q = (u, r, 0)) :
    Ev.get l a = if Ev.right ⟨Ev.clip x, Ev.clip y, ⟨t.toArray⟩, ⟨u.toArray⟩, Ev.clip z⟩ then (⟨Ev.clip x, Ev.clip y, ⟨t.toArray⟩, ⟨u.toArray⟩, Ev.clip z⟩, r, 0) else (.zero, 0, 4) := by
  have e4 : Ev.istep l ([.n x, .n y, .n z], p, 0) false = ([.n x, .n y, .n z] ++ [.t t], (q : Int), 0) := Ev.istep_ok l _ p false (.t t) q (by rw [Ev.iget_t, h2])
  have e5 : Ev.istep l ([.n x, .n y, .n z] ++ [.t t], (q : Int), 0) false = ([.n x, .n y, .n z] ++ [.t t] ++ [.t u], (r : Int), 0) := Ev.istep_ok l _ q false (.t u) r (by rw [Ev.iget_t, h3])
  have e : Ev.igets Ev.kinds l a = ([.n x, .n y, .n z] ++ [.t t] ++ [.t u], (r : Int), 0) := by rw [kinds_three, h, e4, e5]
  rw [Ev.get, e, if_neg (by simp)]
  rfl
theorem vcut_le (l : List UInt8) (a : Int) : (vcut l a).1.length ≤ l.length ∧ (vcut l a).2.1 ≤ l.length ∧ (vcut l a).2.2 ≤ 4 := by
  have h := Ev.iget_le false l a
  rw [Ev.iget_t] at h
  refine ⟨?_, h.1, h.2⟩
  unfold vcut
  split
  · simp
  · split
    · simp
    · split
      · simp
      · simp only [List.length_take, List.length_drop]; omega
/-- what a row of numbers holds -/
theorem OwnNs.at {w : World} {base : Nat} {v : Value} {xs : List Nat} (h : OwnNs w base v xs) (hn : xs ≠ []) : ∃ g cap, v = .slice (some ⟨g, 0, none⟩) xs.length cap ∧ xs.length ≤ cap ∧ g < w.heap.size ∧ ∀ i x, xs[i]? = some x → w.cell? ⟨g, i, none⟩ = some (.int .i64 (Ev.clip x)) := by
  have h' := h
  obtain ⟨hl, hr⟩ := h
  rcases hr with ⟨_, h0⟩ | ⟨g, cap, cur, hv, hb, hg, hlen, hcap, h1, h2⟩
  · exact absurd (List.eq_nil_of_length_eq_zero h0) hn
  · subst hv
    refine ⟨g, cap, rfl, hlen, heap_lt hg, fun i x hx => ?_⟩
    have hi : i < xs.length := (List.getElem?_eq_some_iff.1 hx).1
    rw [World.ownsRow.cellAt h' i (by omega), List.getElem?_map, hx]
    rfl
theorem OwnNs.kept {w w' : World} {base : Nat} {v : Value} {xs : List Nat} (h : OwnNs w base v xs) (k : Kept w w') : OwnNs w' base v xs := own_kept h k
theorem ret_rev (R : Nat) (tmps : Array Value) (W : World) (E : Ev.E) (p f : Int) (h4 : tmps[4]?.getD undef = .pointer (some ⟨R, 0, none⟩)) (h5 : tmps[5]?.getD undef = .int .i64 p) (h6 : tmps[6]?.getD undef = .int .i64 f) (hb : Blk W R (evc E) 23) :
    (results Tryz.f71 tmps).run Tryz.prog W = .ok (.tuple #[evv E, .int .i64 p, .int .i64 f]) W := by
  unfold evc at hb
  have c0 := hb.cell 0
  have c1 := hb.cell 1
  have c2 := hb.cell 2
  have c3 := hb.cell 3
  have c4 := hb.cell 4
  simp only [List.getElem?_toArray, List.getElem?_cons_zero, List.getElem?_cons_succ] at c0 c1 c2 c3 c4
  simp [results, Tryz.f71, go_sem, h4, h5, h6, c0, c1, c2, c3, c4, evv]

set_option maxHeartbeats 2000000 in
set_option maxRecDepth 100000 in
theorem rget_any (s : ByteArray) (a : Int) (w : World) (hs : s.size ≤ 1000) (h1 : -9223372036854775808 ≤ a) (h2 : a ≤ 9223372036854775807) :
    Calls Tryz.prog 71 #[.string s, .int .i64 a] w fun r w' => r = .returned (tupe (Ev.get s.data.toList a)) ∧ Kept w w' := by
  have Hsl := Lib.hid (size_len s)
  have hfair : Fair (Ev.igets (List.replicate 3 true) s.data.toList a) := fold_fair _ (by rw [size_len]; omega) _ _ ⟨h1, h2, Nat.zero_le _⟩
  have Hb3 := Lib.hid (get_bad3 s.data.toList a)
  have Hi3 := Lib.hid (igets_three s.data.toList a)
  have hnu := nums_any s a 3
  obtain ⟨⟨its, p, e⟩, hg⟩ : ∃ x, x = Ev.igets (List.replicate 3 true) s.data.toList a := ⟨_, rfl⟩
  rw [← hg] at hfair Hb3 Hi3 hnu
  obtain ⟨q0, q1, q2⟩ := hfair
  simp only at q0 q1 q2
  have Hg := Lib.hid hg
  have Hnu := Lib.hid hnu
  have hRR : w.heap.size ≤ w.heap.size := Nat.le_refl _
  clear hg hnu
  go_enter Tryz.func71, Tryz.ntmps71
  go_wp2_with fail
  refine (Hnu.out _ hs h1 h2 (by omega)).mono ?_
  rintro r w1 hres
  have bR0 := Blk.made w #[.int .i64 0, .int .i64 0, .string ⟨#[]⟩, .string ⟨#[]⟩, .int .i64 0] 23
  have kR0 : Kept w (w.alloc (.cells #[.int .i64 0, .int .i64 0, .string ⟨#[]⟩, .string ⟨#[]⟩, .int .i64 0] 23)) := (Kept.refl w).alloc _
  unfold NumRes at hres
  simp only at hres
  by_cases he : e = 0
  · rw [if_pos he] at hres
    obtain ⟨v, rfl, hown, k1⟩ := hres
    subst he
    obtain ⟨x, y, z, hxyz⟩ := Hi3.out rfl
    obtain rfl : its = [.n x, .n y, .n z] := hxyz
    have B1 := Lib.hid (bR0.kept k1)
    have K1 := Lib.hid (kR0.trans k1)
    have HO1 := Lib.hid hown
    clear bR0 kR0 k1 hown
    have hle := vcut_le s.data.toList p
    have hb4 := get_bad4 s.data.toList a _ p Hg.out.symm
    obtain ⟨⟨t, q, e4⟩, hv4⟩ : ∃ x, x = vcut s.data.toList p := ⟨_, rfl⟩
    rw [← hv4, Hsl.out] at hle
    rw [← hv4] at hb4
    obtain ⟨l1, l2, l3⟩ := hle
    simp only at l1 l2 l3 hb4
    have Hv4 := Lib.hid hv4
    have Hb4 := Lib.hid hb4
    clear hv4 hb4
    go_wp2_with fail
    refine (refcut_any s p _ hs q0 q1).mono ?_
    rintro r w2 ⟨rfl, k2⟩
    rw [← Hv4.out]
    unfold tups
    simp only
    obtain ⟨T, hT, sT, lT⟩ := name_row t
    rw [hT]
    rw [← sT] at l1
    have B2 := Lib.hid (B1.out.kept k2)
    have K2 := Lib.hid (K1.out.trans k2)
    have HO2 := Lib.hid (HO1.out.kept k2)
    have HTt := Lib.hid hT
    clear k2 hT sT
    by_cases he4 : e4 = 0
    · subst he4
      have hle := vcut_le s.data.toList q
      have hb5 := get_bad5 s.data.toList a _ p t q Hg.out.symm Hv4.out.symm
      have hgd := get_good s.data.toList a x y z p t
      obtain ⟨⟨u, rr, e5⟩, hv5⟩ : ∃ x, x = vcut s.data.toList q := ⟨_, rfl⟩
      rw [← hv5, Hsl.out] at hle
      rw [← hv5] at hb5
      obtain ⟨m1, m2, m3⟩ := hle
      simp only at m1 m2 m3 hb5
      have Hv5 := Lib.hid hv5
      have Hb5 := Lib.hid hb5
      have Hgd := Lib.hid hgd
      clear hv5 hb5 hgd
      go_wp2_with fail
      refine (refcut_any s q _ hs (by omega) (by omega)).mono ?_
      rintro r w3 ⟨rfl, k3⟩
      rw [← Hv5.out]
      unfold tups
      simp only
      obtain ⟨U, hU, sU, lU⟩ := name_row u
      rw [hU]
      rw [← sU] at m1
      have b3 := B2.out.kept k3
      have K3 := Lib.hid (K2.out.trans k3)
      have ho3 := HO2.out.kept k3
      have HUu := Lib.hid hU
      clear k3 hU sU
      by_cases he5 : e5 = 0
      · subst he5
        have hgood := Hgd.out u q rr Hg.out.symm Hv4.out.symm Hv5.out.symm
        obtain ⟨g, cap, rfl, hcap, hgl, hc⟩ := ho3.at (by simp [numsOf])
        have d0 := hc 0 x rfl
        have d1 := hc 1 y rfl
        have d2 := hc 2 z rfl
        have hcl : ∀ n, Ev.clip n ≤ 1099511627777 := fun n => by unfold Ev.clip; omega
        have c1 := hcl x
        have c2 := hcl y
        have c3 := hcl z
        have hlen3 : (numsOf [Ev.It.n x, .n y, .n z]).length = 3 := rfl
        rw [hlen3] at hcap ⊢
        rw [show (⟨t.toArray⟩ : ByteArray) = T from by have := HTt.out; simp only [str, Value.string.injEq] at this; exact this, show (⟨u.toArray⟩ : ByteArray) = U from by have := HUu.out; simp only [str, Value.string.injEq] at this; exact this] at hgood
        have Hgood := Lib.hid hgood
        have B3 := Lib.hid b3
        clear hc hcl hgood b3 ho3 hlen3
        go_wp2_with fail
        go_region
        have bE := Blk.made w3 (evc ⟨Ev.clip x, Ev.clip y, T, U, Ev.clip z⟩) 23
        have kE : Kept w3 (w3.alloc (.cells (evc ⟨Ev.clip x, Ev.clip y, T, U, Ev.clip z⟩) 23)).drew := ((Kept.refl w3).alloc _).drew
        unfold evc at bE kE
        simp only at bE kE
        obtain ⟨W, hW⟩ : ∃ W, W = (w3.alloc (.cells #[.int .i64 (Ev.clip x : Int), .int .i64 (Ev.clip y : Int), .string T, .string U, .int .i64 (Ev.clip z : Int)] 23)).drew := ⟨_, rfl⟩
        have bE2 : Blk W w3.heap.size #[.int .i64 (Ev.clip x : Int), .int .i64 (Ev.clip y : Int), .string T, .string U, .int .i64 (Ev.clip z : Int)] 23 := by rw [hW]; exact bE
        rw [← hW] at kE ⊢
        have BW := Lib.hid (B3.out.kept kE)
        have KW3 := Lib.hid (K3.out.trans kE)
        have x0 := bE2.cell 0
        have x1 := bE2.cell 1
        have x2 := bE2.cell 2
        have x3 := bE2.cell 3
        have x4 := bE2.cell 4
        simp only [List.getElem?_toArray, List.getElem?_cons_zero, List.getElem?_cons_succ] at x0 x1 x2 x3 x4
        have BE2 := Lib.hid bE2
        have hfit : Fit ⟨Ev.clip x, Ev.clip y, T, U, Ev.clip z⟩ := by constructor <;> simp only <;> omega
        have Hfit := Lib.hid hfit
        clear hW bE bE2 kE d0 d1 d2 hfit
        go_wp2_with fail
        refine (rright_ev ⟨Ev.clip x, Ev.clip y, T, U, Ev.clip z⟩ W Hfit.out (by simp only; omega)).mono ?_
        rintro r w5 ⟨rfl, k5⟩
        have bR := BW.out.kept k5
        have bE := BE2.out.kept k5
        have K5 := Lib.hid (KW3.out.trans k5)
        clear x0 x1 x2 x3 x4
        have x0 := bE.cell 0
        have x1 := bE.cell 1
        have x2 := bE.cell 2
        have x3 := bE.cell 3
        have x4 := bE.cell 4
        simp only [List.getElem?_toArray, List.getElem?_cons_zero, List.getElem?_cons_succ] at x0 x1 x2 x3 x4
        have r0 := bR.cell 0
        have r1 := bR.cell 1
        have r2 := bR.cell 2
        have r3 := bR.cell 3
        have r4 := bR.cell 4
        have f0 := bR.frozen 0
        have f1 := bR.frozen 1
        have f2 := bR.frozen 2
        have f3 := bR.frozen 3
        have f4 := bR.frozen 4
        simp only [List.getElem?_toArray, List.getElem?_cons_zero, List.getElem?_cons_succ] at r0 r1 r2 r3 r4
        have BR := Lib.hid bR
        clear bR bE k5
        have hgood := Hgood.out
        clear Hgood
        generalize Ev.right ⟨Ev.clip x, Ev.clip y, T, U, Ev.clip z⟩ = B at hgood ⊢
        cases B
        · have HC := Lib.hid hgood
          clear hgood
          go_wp2
          refine bodyPost_ret (ret_rev w.heap.size _ _ .zero _ _ rfl rfl rfl (set_ev _ _ .zero .zero BR.out)) rfl ⟨?_, set_kept _ _ _ _ _ _ _ _ K5.out hRR⟩
          rw [HC.out]
          rfl
        · have HC := Lib.hid hgood
          clear hgood
          go_wp2
          refine bodyPost_ret (ret_rev w.heap.size _ _ ⟨Ev.clip x, Ev.clip y, T, U, Ev.clip z⟩ _ _ rfl rfl rfl (set_ev _ _ .zero ⟨Ev.clip x, Ev.clip y, T, U, Ev.clip z⟩ BR.out)) rfl ⟨?_, set_kept _ _ _ _ _ _ _ _ K5.out hRR⟩
          rw [HC.out]
          rfl
      · have he2 : ((e5 : Int) == 0) = false := by simp only [beq_eq_false_iff_ne]; omega
        have he3 : ((e5 : Int) != 0) = true := by simp [bne, he2]
        have HC := Lib.hid (Hb5.out he5)
        have bR := b3
        have r0 := bR.cell 0
        have r1 := bR.cell 1
        have r2 := bR.cell 2
        have r3 := bR.cell 3
        have r4 := bR.cell 4
        have f0 := bR.frozen 0
        have f1 := bR.frozen 1
        have f2 := bR.frozen 2
        have f3 := bR.frozen 3
        have f4 := bR.frozen 4
        simp only [List.getElem?_toArray, List.getElem?_cons_zero, List.getElem?_cons_succ] at r0 r1 r2 r3 r4
        have BR := Lib.hid bR
        clear bR b3 ho3
        go_wp2
        refine bodyPost_ret (ret_rev w.heap.size _ _ .zero _ _ rfl rfl rfl (set_ev _ _ .zero .zero BR.out)) rfl ⟨?_, set_kept _ _ _ _ _ _ _ _ K3.out hRR⟩
        rw [HC.out]
        rfl
    · have he2 : ((e4 : Int) == 0) = false := by simp only [beq_eq_false_iff_ne]; omega
      have he3 : ((e4 : Int) != 0) = true := by simp [bne, he2]
      have HC := Lib.hid (Hb4.out he4)
      have bR := B2.out
      have r0 := bR.cell 0
      have r1 := bR.cell 1
      have r2 := bR.cell 2
      have r3 := bR.cell 3
      have r4 := bR.cell 4
      have f0 := bR.frozen 0
      have f1 := bR.frozen 1
      have f2 := bR.frozen 2
      have f3 := bR.frozen 3
      have f4 := bR.frozen 4
      simp only [List.getElem?_toArray, List.getElem?_cons_zero, List.getElem?_cons_succ] at r0 r1 r2 r3 r4
      have BR := Lib.hid bR
      clear bR
      go_wp2
      refine bodyPost_ret (ret_rev w.heap.size _ _ .zero _ _ rfl rfl rfl (set_ev _ _ .zero .zero BR.out)) rfl ⟨?_, set_kept _ _ _ _ _ _ _ _ K2.out hRR⟩
      rw [HC.out]
      rfl
  · rw [if_neg he] at hres
    obtain ⟨rfl, k1⟩ := hres
    have he2 : ((e : Int) == 0) = false := by simp only [beq_eq_false_iff_ne]; omega
    have he3 : ((e : Int) != 0) = true := by simp [bne, he2]
    have HC := Lib.hid (Hb3.out he)
    have b1 := bR0.kept k1
    have K1 := Lib.hid (kR0.trans k1)
    have r0 := b1.cell 0
    have r1 := b1.cell 1
    have r2 := b1.cell 2
    have r3 := b1.cell 3
    have r4 := b1.cell 4
    have f0 := b1.frozen 0
    have f1 := b1.frozen 1
    have f2 := b1.frozen 2
    have f3 := b1.frozen 3
    have f4 := b1.frozen 4
    simp only [List.getElem?_toArray, List.getElem?_cons_zero, List.getElem?_cons_succ] at r0 r1 r2 r3 r4
    have BR := Lib.hid b1
    clear b1 k1 bR0 kR0
    go_wp2
    refine bodyPost_ret (ret_rev w.heap.size _ _ .zero _ _ rfl rfl rfl (set_ev _ _ .zero .zero BR.out)) rfl ⟨?_, set_kept _ _ _ _ _ _ _ _ K1.out hRR⟩
    rw [HC.out]
    rfl
end Go.Proofs.YtlfmpoinjbmjoaaGreatDoor

namespace Go.Proofs.YtlfmpoinjbmjoaaGreatDoor
open Go.ChangeShapes Go.WideShapes Go.ChangeAt Go.RowKit

theorem mark_cells (w : World) (x y : Int) : ∀ (j : Nat) (u : Value), [Value.int .i64 x, .int .i64 y][j]? = some u → (w.alloc (.cells #[.int .i64 x, .int .i64 y] 63)).cell? ((⟨w.heap.size, 0, none⟩ : Addr).add j) = some u := by
  intro j u hj
  match j, hj with
  | 0, hj => simp at hj; subst hj; simp [Addr.add]
  | 1, hj => simp at hj; subst hj; simp [Addr.add]
theorem mark_one (x y : Int) : ∀ u ∈ [Value.int .i64 x, .int .i64 y], u.oneCell' = true := by
  intro u hu; simp at hu; rcases hu with rfl | rfl <;> rfl
/-- one more mark behind a row of the call's own: a step of a region that draws its order -/
theorem step_mark {w : World} {ops : Array Oper} {o : Oper} {a : Act} {K : Act → World → Prop} {Q : Exit → Act → World → Prop} {E : Prop} {base : Nat} {v : Value} {ms : List Ev.M}
    (hown : OwnM w base v ms) (n : Nat) (hn : ms.length = n) (hx : n ≤ 1000001) (hbase : base ≤ w.heap.size) (m : Ev.M) (hgd : o.guard = none) (s x : Operand)
    (ho : o.op = .call { callee := .builtin .append, args := #[s, x], argTypes := #[24, 24] }) (hs : a.eval s = v) (hxe : a.eval x = .slice (some ⟨w.heap.size, 0, none⟩) 1 1)
    (h : ∀ g cap w', OwnM w' base (.slice (some ⟨g, 0, none⟩) (n + 1) cap) (ms ++ [m]) → Below base w w' → K (a.put o.dst (.slice (some ⟨g, 0, none⟩) (n + 1) cap)) w') :
    if Region.wanted o (yielded ops a.tmps) = true then Oper.wp Tryz.prog o a (w.alloc (.cells #[.int .i64 m.o, .int .i64 m.s] 63)) K Q else E := by
  subst hn
  rw [if_pos (by simp [Region.wanted, hgd])]
  obtain ⟨i0, hi, hz0, hz1, hz2⟩ := info_parts infoMark
  refine wp_append_own _ s x 24 ho base 63 i0 (.agg #[.int .i64 0, .int .i64 0]) 2 16 Tryz.underlying24 hi hz0 hz1 hz2 rfl (by decide) v ms.length (ms.flatMap mcells) hs (World.ownsRow.alloc hown _) ⟨w.heap.size, 0, none⟩ 1 1 [.int .i64 m.o, .int .i64 m.s] hxe rfl (mark_cells _ _ _) (mark_one _ _) (by unfold maxLen; omega) (by omega) (by simp; omega) ?_
  intro v' w' hown' hgrow _
  obtain ⟨g, cap, rfl⟩ : ∃ g cap, v' = .slice (some ⟨g, 0, none⟩) (ms.length + 1) cap := by
    rcases hown'.2 with ⟨_, h0⟩ | ⟨g, cap, _, rfl, _⟩
    · omega
    · exact ⟨g, cap, rfl⟩
  refine h g cap w' ?_ (((Below.refl base w).alloc hbase _).grown hgrow (by simp; omega) fun k hk => ?_)
  · unfold OwnM
    rw [List.length_append, List.length_singleton, List.flatMap_append]
    exact hown'
  · rcases hown.2 with ⟨rfl, _⟩ | ⟨g', cap', _, rfl, hb, _⟩
    · cases hk
    · cases hk; exact hb

theorem numsOf_at : ∀ (xs : List Ev.It) (j k : Nat), xs[j]? = some (.n k) → (numsOf xs)[j]? = some k
  | [], j, k, h => by simp at h
  | .n x :: r, 0, k, h => by simp at h; subst h; rfl
  | .t x :: r, 0, k, h => by simp at h
  | .n x :: r, j + 1, k, h => by rw [List.getElem?_cons_succ] at h; simp only [numsOf, List.getElem?_cons_succ]; exact numsOf_at r j k h
  | .t x :: r, j + 1, k, h => by rw [List.getElem?_cons_succ] at h; simp only [numsOf, List.getElem?_cons_succ]; exact numsOf_at r j k h
/-- numbers by pairs are marks -/
theorem igets_pairs (l : List UInt8) (a : Int) (n : Nat) (h : (Ev.igets (List.replicate (2 * n) true) l a).2.2 = 0) :
    (Ev.igets (List.replicate (2 * n) true) l a).1.length = 2 * n ∧ (Ev.ofPairs (Ev.igets (List.replicate (2 * n) true) l a).1).length = n ∧ (0 ≤ a → 0 ≤ (Ev.igets (List.replicate (2 * n) true) l a).2.1) ∧
    ∀ i, i < n → ∃ p q, (numsOf (Ev.igets (List.replicate (2 * n) true) l a).1)[2 * i]? = some p ∧ (numsOf (Ev.igets (List.replicate (2 * n) true) l a).1)[2 * i + 1]? = some q ∧ (Ev.ofPairs (Ev.igets (List.replicate (2 * n) true) l a).1)[i]? = some ⟨Ev.clip p, Ev.clip q⟩ := by
  have hf := mgot_fst l a (Array.replicate (2 * n) undef) (2 * n)
  have hat := mgot_at l a (Array.replicate (2 * n) undef) (2 * n) (by simp)
  rw [hf] at hat
  obtain ⟨r1, r2, r3⟩ := hat h
  obtain ⟨o1, o2⟩ := ofPairs_at n _ r1 (fun j hj => let ⟨k, k1, _⟩ := r3 j hj; ⟨k, k1⟩)
  refine ⟨r1, o1, r2, fun i hi => ?_⟩
  obtain ⟨p, q, e1, e2, e3⟩ := o2 i hi
  exact ⟨p, q, numsOf_at _ _ _ e1, numsOf_at _ _ _ e2, e3⟩
theorem OwnNs.form {w : World} {base : Nat} {v : Value} {xs : List Nat} (h : OwnNs w base v xs) : ∃ av cap, v = .slice av xs.length cap := by
  rcases h.2 with ⟨rfl, h0⟩ | ⟨g, cap, cur, rfl, _⟩
  · exact ⟨none, 0, by rw [h0]⟩
  · exact ⟨_, _, rfl⟩

set_option maxHeartbeats 2000000 in
set_option maxRecDepth 100000 in
theorem rcut_new (s : ByteArray) (a : Int) (w : World) (hs : s.size ≤ 1000) (h1 : -9223372036854775808 ≤ a) (h2 : a ≤ 9223372036854775807) :
    Calls Tryz.prog 70 #[.string s, .int .i64 a] w (CutNew w (Ev.mcut s.data.toList a)) := by
  have Hsl := Lib.hid (size_len s)
  have hcut : Ev.mcut s.data.toList a = Ev.mcut s.data.toList a := rfl
  conv at hcut => rhs; unfold Ev.mcut
  have hle := vget_le s.data.toList a
  obtain ⟨⟨c, tt, er⟩, hv⟩ : ∃ x, x = vget s.data.toList a := ⟨_, rfl⟩
  rw [← hv, Hsl.out] at hle
  rw [← hv] at hcut
  simp only at hcut hle
  obtain ⟨l1, l2, l3⟩ := hle
  have Hcut := Lib.hid hcut
  have Hv := Lib.hid hv
  clear hcut hv
  go_enter Tryz.func70, Tryz.ntmps70
  go_wp2_with fail
  refine (refget_any s a _ hs h1 h2).mono ?_
  rintro r w1 ⟨rfl, k1⟩
  rw [← Hv.out]
  unfold tup
  simp only
  have K1 := Lib.hid k1
  clear k1
  by_cases he : er = 0
  · subst he
    by_cases hbig : 32 < c
    · have HC : Hid (Ev.mcut s.data.toList a = ([], 0, 2)) := by show _ = _; rw [Hcut.out, if_neg (by simp), if_pos hbig]
      go_wp2
      go_ret3
      exact cutNew_nil HC.out K1.out
    · have hcut := Hcut.out
      rw [if_neg (by simp), if_neg hbig] at hcut
      have hip := igets_pairs s.data.toList tt c
      have hnu := nums_any s tt (2 * c)
      have hfair : Fair (Ev.igets (List.replicate (2 * c) true) s.data.toList tt) := fold_fair _ (by rw [size_len]; omega) _ _ ⟨by simp only; omega, by simp only; omega, Nat.zero_le _⟩
      obtain ⟨⟨its, p, e⟩, hg⟩ : ∃ x, x = Ev.igets (List.replicate (2 * c) true) s.data.toList tt := ⟨_, rfl⟩
      rw [← hg] at hcut hip hnu hfair
      obtain ⟨q0, q1, q2⟩ := hfair
      simp only at hcut hip q0 q1 q2
      have Hcut2 := Lib.hid hcut
      have Hip := Lib.hid hip
      have Hnu := Lib.hid hnu
      have hb3 : decide ((32 : Int) < (c : Int)) = false := by simp; omega
      clear hcut hip hnu hg
      go_wp2_with fail
      have hnn := Hnu.out w1 hs (by omega) (by omega) (by omega)
      rw [show ((2 * c : Nat) : Int) = 2 * (c : Int) by omega] at hnn
      refine hnn.mono ?_
      rintro r w2 hres
      unfold NumRes at hres
      simp only at hres
      clear hnn
      by_cases he : e = 0
      · rw [if_pos he] at hres
        obtain ⟨v, rfl, hown, k2⟩ := hres
        subst he
        obtain ⟨i1, i2, i3, i4⟩ := Hip.out rfl
        have hpos := i3 (by omega)
        obtain ⟨ms, hms⟩ : ∃ ms, ms = Ev.ofPairs its := ⟨_, rfl⟩
        rw [← hms] at Hcut2 i2 i4
        obtain ⟨av, cap, rfl⟩ := hown.form
        rw [numsOf_length, i1]
        have HO := Lib.hid hown
        have I4 := Lib.hid i4
        have I2 := Lib.hid i2
        have I1 := Lib.hid i1
        have K2 := Lib.hid (K1.out.trans k2)
        have hcl : ∀ n, Ev.clip n ≤ 1099511627777 := fun n => by unfold Ev.clip; omega
        have hfit : ∀ m ∈ ms, mfit m := fun m hm => by
          obtain ⟨i, hi⟩ := List.getElem?_of_mem hm
          have hic : i < c := by
            have := (List.getElem?_eq_some_iff.1 hi).1
            omega
          obtain ⟨x, y, _, _, e⟩ := i4 i hic
          rw [hi] at e
          cases e
          have := hcl x
          have := hcl y
          unfold mfit
          simp only
          omega
        have Hfit := Lib.hid hfit
        have Hcl := Lib.hid hcl
        clear hown i4 i2 i1 i3 k2 hms hfit hcl
        go_wp2
        go_loopw [13, 14] (fun ov iv wr => ∃ k : Nat, k ≤ c ∧ iv = .int .i64 ((2 * k : Nat) : Int) ∧ OwnM wr w2.heap.size ov (ms.take k) ∧ Kept w2 wr) (fun _ iv _ => 2 * c - (intOf iv).toNat)
        case atStart => exact ⟨0, by omega, rfl, own_marks w2, (Kept.refl w2).alloc _⟩
        case round =>
          obtain ⟨k, hk, rfl, hom, kr⟩ := hrel
          by_cases hlt : k < c
          · obtain ⟨x, y, e0, e1, em⟩ := I4.out k hlt
            have hkm : k < ms.length := by rw [I2.out]; exact hlt
            have hmk : ms[k] = ⟨Ev.clip x, Ev.clip y⟩ := by
              rw [List.getElem?_eq_getElem hkm] at em
              exact Option.some.inj em
            obtain ⟨g, cap', hv, hcap, hgl, hc⟩ := HO.out.at (by
              intro h0
              rw [h0] at e0
              simp at e0)
            have hd0 := hc (2 * k) x e0
            have hd1 := hc (2 * k + 1) y e1
            have d0 : wr.cell? ⟨g, 2 * k, none⟩ = some (.int .i64 (Ev.clip x)) := (Below.cell kr (p := ⟨g, 2 * k, none⟩) hgl).trans hd0
            have d1 : wr.cell? ⟨g, 2 * k + 1, none⟩ = some (.int .i64 (Ev.clip y)) := (Below.cell kr (p := ⟨g, 2 * k + 1, none⟩) hgl).trans hd1
            have c1 := Hcl.out x
            have c2 := Hcl.out y
            have htk : (ms.take k).length = k := by rw [List.length_take]; omega
            have hnext : ms.take (k + 1) = ms.take k ++ [⟨Ev.clip x, Ev.clip y⟩] := by rw [List.take_succ_eq_append_getElem hkm, hmk]
            obtain ⟨rfl⟩ : av = some ⟨g, 0, none⟩ := by
              simp only [Value.slice.injEq] at hv
              exact hv.1
            have hJ : ((2 * k : Nat) : Int) + 1 < ((2 * c : Nat) : Int) := by omega
            obtain ⟨J, hJe⟩ : ∃ J, J = 2 * k := ⟨_, rfl⟩
            obtain ⟨C2, hC2⟩ : ∃ C2, C2 = 2 * c := ⟨_, rfl⟩
            rw [← hJe] at d0 d1 hJ ⊢
            rw [← hC2] at hJ ⊢
            have hJ2 : (J : Int) < (C2 : Int) := by omega
            have hJ3 : J < C2 := by omega
            have hC64 : C2 ≤ 64 := by omega
            have w1' : IntKind.i64.wrap ((J : Int) + 1) = (J : Int) + 1 := by rw [IntKind.wrap_i64]; omega
            have w2' : ((J : Int) + 1).toNat = J + 1 := by omega
            have w3' : 0 ≤ (J : Int) + 1 := by omega
            have kd : Kept w2 wr.drew := kr.drew
            have HOM := Lib.hid hom
            have Htk := Lib.hid htk
            have Hnext := Lib.hid hnext
            have HJ := Lib.hid hJe
            have HC2 := Lib.hid hC2
            clear hom htk hnext hJe hC2 hd0 hd1 hc e0 e1 em hmk hv
            go_wp2
            go_region_law (refine step_mark (HOM.out.kept (Kept.drew (Kept.refl wr))) k Htk.out (by omega) kd.size ⟨Ev.clip x, Ev.clip y⟩ rfl (.tmp 47) (.tmp 58) rfl (by simp [Act.eval]) (by simp [Act.eval]) ?_; intro g' cap'' w3 o3 b3)
            all_goals
              have O3 := Lib.hid o3
              have k3 : Kept w2 w3 := Below.trans kd b3
              clear o3 b3 w1' w2' w3'
              go_wp2
              go_roundw
              case rel =>
                (first
                  | exact ⟨k + 1, by omega, by rw [show ((2 * (k + 1) : Nat) : Int) = (J : Int) + 2 by have := HJ.out; omega], by rw [Hnext.out]; exact O3.out, k3⟩
                  | (repeat apply Exists.intro
                     refine ⟨?_, rfl⟩
                     exact ⟨k + 1, by omega, by rw [show ((2 * (k + 1) : Nat) : Int) = (J : Int) + 2 by have := HJ.out; omega], by rw [Hnext.out]; exact O3.out, k3⟩))
              case measure =>
                have := HJ.out
                have := HC2.out
                simp [intOf]
                omega
          · obtain rfl : k = c := by omega
            have htk : ms.take k = ms := List.take_of_length_le (by rw [I2.out]; exact Nat.le_refl _)
            rw [htk] at hom
            have hnw := hom.new
            obtain ⟨av', cap', rfl, hmks⟩ := hom.mks Hfit.out
            have hnw2 : ms = [] ∨ ∀ a, av' = some a → w.heap.size ≤ a.block := hnw.imp id fun h a ha => Nat.le_trans K2.out.size (h a _ _ (by rw [ha]))
            have HNW := Lib.hid hnw2
            clear hnw hnw2
            have hml := I2.out
            rw [hml]
            have cs := rsorted_any av' cap' ms wr hmks
            rw [hml] at cs
            have CS := Lib.hid cs
            have MK := Lib.hid hmks
            have KR := Lib.hid (K2.out.trans kr)
            have ML := Lib.hid hml
            clear cs hmks kr hml hom htk
            go_wp2_with fail
            refine CS.out.mono ?_
            rintro r w11 ⟨rfl, k11⟩
            have K11 := Lib.hid (KR.out.trans k11)
            have MK11 := Lib.hid (MK.out.kept k11)
            by_cases hso : Ev.sorted ms = true
            · have HC : Hid (Ev.mcut s.data.toList a = (ms, p.toNat, 0)) := by show _ = _; rw [Hcut2.out, if_neg (by simp), if_pos hso]
              rw [hso]
              clear k11 hso
              go_wp2
              go_ret3
              refine ⟨av', cap', ?_, ?_, K11.out, by rw [HC.out]; exact HNW.out⟩
              · rw [HC.out, ML.out]
                show Ending.returned (.tuple #[.slice av' k cap', .int .i64 p, .int .i64 0]) = .returned (.tuple #[.slice av' k cap', .int .i64 ((p.toNat : Nat) : Int), .int .i64 0])
                rw [Int.toNat_of_nonneg hpos]
              · rw [HC.out]; exact MK11.out
            · have HC : Hid (Ev.mcut s.data.toList a = ([], 0, 4)) := by show _ = _; rw [Hcut2.out, if_neg (by simp), if_neg hso]
              rw [Bool.not_eq_true] at hso
              rw [hso]
              clear k11 hso
              go_wp2
              go_ret3
              exact cutNew_nil HC.out K11.out
      · rw [if_neg he] at hres
        obtain ⟨rfl, k2⟩ := hres
        have he2 : ((e : Int) == 0) = false := by simp only [beq_eq_false_iff_ne]; omega
        have he3 : ((e : Int) != 0) = true := by simp [bne, he2]
        have HC : Hid (Ev.mcut s.data.toList a = ([], 0, e)) := by show _ = _; rw [Hcut2.out, if_pos he]
        have K2 := Lib.hid (K1.out.trans k2)
        clear k2
        go_wp2
        go_ret3
        exact cutNew_nil HC.out K2.out
  · have he2 : ((er : Int) == 0) = false := by simp only [beq_eq_false_iff_ne]; omega
    have he3 : ((er : Int) != 0) = true := by simp [bne, he2]
    have HC : Hid (Ev.mcut s.data.toList a = ([], 0, er)) := by show _ = _; rw [Hcut.out, if_pos he]
    go_wp2
    go_ret3
    exact cutNew_nil HC.out K1.out
theorem rcut_any (s : ByteArray) (a : Int) (w : World) (hs : s.size ≤ 1000) (h1 : -9223372036854775808 ≤ a) (h2 : a ≤ 9223372036854775807) :
    Calls Tryz.prog 70 #[.string s, .int .i64 a] w (CutRes w (Ev.mcut s.data.toList a)) := (rcut_new s a w hs h1 h2).mono fun _ _ h => h.res
end Go.Proofs.YtlfmpoinjbmjoaaGreatDoor
