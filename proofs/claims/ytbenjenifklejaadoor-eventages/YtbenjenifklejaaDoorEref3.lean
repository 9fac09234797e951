/-
  The document's own: the walks of rivuletref06.Sorted, Marks, Equal.
-/
import Derived.Test.YtbenjenifklejaaDoorEmark
import Derived.Test.YtbenjenifklejaaDoorEref
import Derived.Test.YtbenjenifklejaaDoorVref2
namespace Go.Proofs.YtbenjenifklejaaDoor
open Go.ChangeShapes Go.WideShapes Go.ChangeAt Go.RowKit

/-- the least Origin that the mark at a place may have -/
def plo (ms : List Ev.M) : Nat → Int
  | 0 => 0
  | j + 1 => (ms[j]?.map fun m => m.o + 1).getD 0
theorem plo_succ (ms : List Ev.M) (j : Nat) (h : j < ms.length) : plo ms (j + 1) = ms[j].o + 1 := by simp [plo, h]

set_option maxHeartbeats 2000000 in
set_option maxRecDepth 100000 in
theorem rsorted_any (av : Option Addr) (cap : Nat) (ms : List Ev.M) (w : World) (h : MkS w av cap ms) :
    Calls Tryd.prog 28 #[.slice av ms.length cap] w fun r w' => r = .returned (.bool (Ev.sorted ms)) ∧ Kept w w' := by
  obtain ⟨h1, h2, h3, h4⟩ := h
  obtain ⟨n, hn⟩ : ∃ n, n = ms.length := ⟨_, rfl⟩
  rw [← hn] at h1 ⊢
  have Hn := Lib.hid hn
  have H3 := Lib.hid h3
  have H4 := Lib.hid h4
  clear hn h3 h4
  have hfalse : Ev.srt 0 ms = false → Ev.sorted ms = false := fun h => by rw [Ev.sorted, h]; simp
  have Hfalse := Lib.hid hfalse
  clear hfalse
  go_enter Tryd.func28, Tryd.ntmps28
  go_wp2
  go_loopw [3] (fun i wr => ∃ k : Nat, k ≤ n ∧ i = .int .i64 k ∧ Hid (0 ≤ plo ms k ∧ Ev.srt 0 ms = Ev.srt (plo ms k) (ms.drop k)) ∧ Kept w wr) (fun i _ => n - (intOf i).toNat)
  case atStart => exact ⟨0, by omega, rfl, ⟨by simp [plo], rfl⟩, Kept.refl _⟩
  case round =>
    obtain ⟨k, hk, rfl, HE, hkk⟩ := hrel
    have HK := Lib.hid hkk
    by_cases hlt : k < n
    · have hkl : k < ms.length := by rw [← Hn.out]; exact hlt
      obtain ⟨⟨mo, ms_⟩, hm⟩ : ∃ m, ms[k] = m := ⟨_, rfl⟩
      have hst := srt_step ms k (plo ms k) hkl
      have hpk := plo_succ ms k hkl
      rw [hm] at hst hpk
      simp only at hpk
      have Hst := Lib.hid hst
      have Hpk := Lib.hid hpk
      have hf : mfit ⟨mo, ms_⟩ := by rw [← hm]; exact H3.out _ (List.getElem_mem hkl)
      rcases H4.out with h0 | ⟨b, off, rfl, hbl, hc⟩
      · rw [h0] at hkl; simp at hkl
      have hcc := hc k ⟨mo, ms_⟩ (by rw [List.getElem?_eq_getElem hkl, hm])
      have d0 : wr.cell? ⟨b, off + k * 2, none⟩ = some (.int .i64 mo) := (Below.cell hkk (p := ⟨b, off + k * 2, none⟩) hbl).trans hcc.1
      have d1 : wr.cell? ⟨b, off + k * 2 + 1, none⟩ = some (.int .i64 ms_) := (Below.cell hkk (p := ⟨b, off + k * 2 + 1, none⟩) hbl).trans hcc.2
      obtain ⟨⟨f0, f1⟩, f2, f3⟩ := hf
      simp only at f0 f1 f2 f3
      have t0 := KW.cell d0
      have t1 := KW.cell d1
      have HC := Lib.hid hc
      have hki : (k : Int) < (n : Int) := by omega
      clear hst hcc hc hm d0 d1 hpk
      by_cases q1 : 0 ≤ mo ∧ mo ≤ 1099511627776
      · have ca : ∀ p : KW wr, Calls Tryd.prog 33 #[.int .i64 mo, .int .i64 0, .int .i64 1099511627776] p.v fun r w' => r = .returned (.bool true) ∧ Kept p.v w' := fun p => (rin_yes mo 0 1099511627776 p.v q1).mono fun _ _ ⟨h, e⟩ => ⟨h, e ▸ Kept.refl _⟩
        have CA := Lib.hid ca
        clear ca
        by_cases q2 : 1 ≤ ms_ ∧ ms_ ≤ 1099511627776
        · have cb : ∀ p : KW wr, Calls Tryd.prog 33 #[.int .i64 ms_, .int .i64 1, .int .i64 1099511627776] p.v fun r w' => r = .returned (.bool true) ∧ Kept p.v w' := fun p => (rin_yes ms_ 1 1099511627776 p.v q2).mono fun _ _ ⟨h, e⟩ => ⟨h, e ▸ Kept.refl _⟩
          have CB := Lib.hid cb
          clear cb
          by_cases hk0 : k = 0
          · have HN : Hid (0 ≤ plo ms (k + 1) ∧ Ev.srt 0 ms = Ev.srt (plo ms (k + 1)) (ms.drop (k + 1))) := by
              refine ⟨by rw [Hpk.out]; omega, ?_⟩
              rw [HE.out.2, Hst.out, Hpk.out]
              have : plo ms k = 0 := by rw [hk0]; rfl
              rw [this]
              simp [q1, q2]
            have hk0' : ¬ (0 < k) := by omega
            clear hk0
            go_wp2_with fail
            have nn : Nonempty (KW wr) := ⟨⟨wr, Kept.refl wr⟩⟩
            refine wp_region_kept (by kernel_rfl) (by kernel_rfl) ?_
            repeat (go_big_quiet_step ((go_at_call 33; first | (with_reducible exact KW.calls _ (CA.out _)) | (with_reducible exact KW.calls _ (CB.out _)))))
            refine wpQuiet_nil ?_
            intro w6 hw6
            have kk6 : Kept w w6 := by
              obtain ⟨p, rfl⟩ := hw6
              exact HK.out.trans p.h
            clear hw6 nn t0 t1
            go_wp2
            go_roundw
            case rel => exact ⟨k + 1, by omega, by go_num, HN, kk6⟩
            case measure => simp [intOf]; omega
          · obtain ⟨j, hj⟩ : ∃ j, k = j + 1 := ⟨k - 1, by omega⟩
            have hk0' : 0 < k := by omega
            have hw1 : IntKind.i64.wrap ((k : Int) - 1) = (j : Int) := by rw [IntKind.wrap_i64]; omega
            have hjl : j < ms.length := by omega
            obtain ⟨⟨po, ps⟩, hp⟩ : ∃ m, ms[j] = m := ⟨_, rfl⟩
            have hpj : plo ms k = po + 1 := by rw [hj, plo_succ ms j hjl, hp]
            have hfp : mfit ⟨po, ps⟩ := by rw [← hp]; exact H3.out _ (List.getElem_mem hjl)
            have hcp := HC.out j ⟨po, ps⟩ (by rw [List.getElem?_eq_getElem hjl, hp])
            have e0 : wr.cell? ⟨b, off + j * 2, none⟩ = some (.int .i64 po) := (Below.cell hkk (p := ⟨b, off + j * 2, none⟩) hbl).trans hcp.1
            have t2 := KW.cell e0
            have hji : (j : Int) < (n : Int) := by omega
            obtain ⟨⟨g0, g1⟩, _, _⟩ := hfp
            simp only at g0 g1
            have Hpj := Lib.hid hpj
            clear hcp e0 hp hj hpj hk0
            by_cases q3 : po < mo
            · have HN : Hid (0 ≤ plo ms (k + 1) ∧ Ev.srt 0 ms = Ev.srt (plo ms (k + 1)) (ms.drop (k + 1))) := by
                refine ⟨by rw [Hpk.out]; omega, ?_⟩
                rw [HE.out.2, Hst.out, Hpk.out, Hpj.out]
                simp only [q1, q2, decide_true, Bool.true_and, decide_eq_true (show po + 1 ≤ mo by omega)]
              have q3' : decide (mo ≤ po) = false := by simpa using q3
              clear q3
              go_wp2_with fail
              have nn : Nonempty (KW wr) := ⟨⟨wr, Kept.refl wr⟩⟩
              refine wp_region_kept (by kernel_rfl) (by kernel_rfl) ?_
              repeat (go_big_quiet_step ((go_at_call 33; first | (with_reducible exact KW.calls _ (CA.out _)) | (with_reducible exact KW.calls _ (CB.out _)))))
              refine wpQuiet_nil ?_
              intro w6 hw6
              have kk6 : Kept w w6 := by
                obtain ⟨p, rfl⟩ := hw6
                exact HK.out.trans p.h
              clear hw6 nn t0 t1 t2 q3' hw1
              go_wp2
              go_roundw
              case rel => exact ⟨k + 1, by omega, by go_num, HN, kk6⟩
              case measure => simp [intOf]; omega
            · have HN : Hid (Ev.sorted ms = false) := by
                refine Hfalse.out ?_
                rw [HE.out.2, Hst.out, Hpj.out, decide_eq_false (show ¬ po + 1 ≤ mo by omega)]
                rfl
              have q3' : decide (mo ≤ po) = true := by simp; omega
              have q4 : mo ≤ po := by omega
              clear q3
              go_wp2_with fail
              have nn : Nonempty (KW wr) := ⟨⟨wr, Kept.refl wr⟩⟩
              refine wp_region_kept (by kernel_rfl) (by kernel_rfl) ?_
              repeat (go_big_quiet_step ((go_at_call 33; first | (with_reducible exact KW.calls _ (CA.out _)) | (with_reducible exact KW.calls _ (CB.out _)))))
              refine wpQuiet_nil ?_
              intro w6 hw6
              have kk6 : Kept w w6 := by
                obtain ⟨p, rfl⟩ := hw6
                exact HK.out.trans p.h
              clear hw6 nn t0 t1 t2 q3' hw1
              go_wp2
              go_ret
              exact ⟨by rw [HN.out]; rfl, kk6⟩
        · have cb : ∀ p : KW wr, Calls Tryd.prog 33 #[.int .i64 ms_, .int .i64 1, .int .i64 1099511627776] p.v fun r w' => r = .returned (.bool false) ∧ Kept p.v w' := fun p => (rin_no ms_ 1 1099511627776 p.v q2).mono fun _ _ ⟨h, e⟩ => ⟨h, e ▸ Kept.refl _⟩
          have CB := Lib.hid cb
          clear cb
          have HN : Hid (Ev.sorted ms = false) := by
            refine Hfalse.out ?_
            rw [HE.out.2, Hst.out, ← Bool.not_eq_true]
            simp only [Bool.and_eq_true, decide_eq_true_eq]
            exact fun h => q2 h.1.2
          go_wp2_with fail
          have nn : Nonempty (KW wr) := ⟨⟨wr, Kept.refl wr⟩⟩
          refine wp_region_kept (by kernel_rfl) (by kernel_rfl) ?_
          repeat (go_big_quiet_step ((go_at_call 33; first | (with_reducible exact KW.calls _ (CA.out _)) | (with_reducible exact KW.calls _ (CB.out _)))))
          refine wpQuiet_nil ?_
          intro w6 hw6
          have kk6 : Kept w w6 := by
            obtain ⟨p, rfl⟩ := hw6
            exact HK.out.trans p.h
          clear hw6 nn t0 t1
          go_wp2
          go_ret
          exact ⟨by rw [HN.out]; rfl, kk6⟩
      · have ca : ∀ p : KW wr, Calls Tryd.prog 33 #[.int .i64 mo, .int .i64 0, .int .i64 1099511627776] p.v fun r w' => r = .returned (.bool false) ∧ Kept p.v w' := fun p => (rin_no mo 0 1099511627776 p.v q1).mono fun _ _ ⟨h, e⟩ => ⟨h, e ▸ Kept.refl _⟩
        have CA := Lib.hid ca
        clear ca
        have HN : Hid (Ev.sorted ms = false) := by
          refine Hfalse.out ?_
          rw [HE.out.2, Hst.out, ← Bool.not_eq_true]
          simp only [Bool.and_eq_true, decide_eq_true_eq]
          intro h
          have := HE.out.1
          exact q1 ⟨by omega, h.1.1.2⟩
        go_wp2_with fail
        have nn : Nonempty (KW wr) := ⟨⟨wr, Kept.refl wr⟩⟩
        refine wp_region_kept (by kernel_rfl) (by kernel_rfl) ?_
        repeat (go_big_quiet_step ((go_at_call 33; first | (with_reducible exact KW.calls _ (CA.out _)))))
        refine wpQuiet_nil ?_
        intro w6 hw6
        have kk6 : Kept w w6 := by
          obtain ⟨p, rfl⟩ := hw6
          exact HK.out.trans p.h
        clear hw6 nn t0 t1
        go_wp2
        go_ret
        exact ⟨by rw [HN.out]; rfl, kk6⟩
    · obtain rfl : k = n := by omega
      have HN : Hid (Ev.sorted ms = decide (k ≤ 32)) := by
        show _ = _
        rw [Ev.sorted, HE.out.2, List.drop_of_length_le (by rw [← Hn.out]; exact Nat.le_refl _), ← Hn.out]
        simp [Ev.srt]
      clear hkk
      go_wp2
      go_ret
      refine ⟨?_, HK.out⟩
      rw [HN.out]
      show Ending.returned (.bool (decide ((k : Int) ≤ 32))) = _
      congr 2
      exact decide_eq_decide.2 (by omega)
end Go.Proofs.YtbenjenifklejaaDoor
