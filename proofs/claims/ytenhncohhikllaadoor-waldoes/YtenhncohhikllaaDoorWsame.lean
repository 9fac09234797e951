/-
  The law's same: a log stands as the document says.
-/
import Derived.Test.YtenhncohhikllaaDoorWsreg
namespace Go.Proofs.YtenhncohhikllaaDoor
open Go.ChangeShapes Go.WideShapes Go.ChangeAt Go.RowKit

theorem rkept_is {b base : Nat} {K : Dk.Fl} {v : Value} {ws : List Dk.W} (f : Int) (t : ByteArray) (w : World) (h : RD w base b K v ws) (ht : (if 0 ≤ f ∧ f < 4 then K f.toNat else ⟨#[]⟩) = t) :
    Calls Tryd.prog 44 #[.pointer (some ⟨b, 0, none⟩), .int .i64 f] w fun e w' => e = .returned (.string t) ∧ Kept w w' := ht ▸ rkept_any f w h
theorem runits_is {b base : Nat} {K : Dk.Fl} {v : Value} {ws : List Dk.W} (n : Int) (w : World) (h : RD w base b K v ws) (hn : (Dk.total ws : Int) = n) :
    Calls Tryd.prog 30 #[.pointer (some ⟨b, 0, none⟩)] w fun e w' => e = .returned (.int .i64 n) ∧ Kept w w' := by
  subst hn
  exact (runits_any w h).mono fun e w' ⟨h1, h2⟩ => ⟨h1, h2 ▸ Kept.refl w⟩
theorem rd_new (w : World) : RD (w.alloc (.cells (rcells (fun _ => ⟨#[]⟩) (.slice none 0 0)) 30)) w.heap.size w.heap.size (fun _ => ⟨#[]⟩) (.slice none 0 0) [] :=
  ⟨heap_alloc_new w _, Nat.le_refl _, OffV.nil _ _ _ _, Nat.zero_le _, by simp, Dk.fits_nil fun _ => Nat.zero_le _⟩

set_option maxHeartbeats 1000000 in
set_option maxRecDepth 100000 in
theorem wsame_any {base b d base' rb rd : Nat} {K : Dk.Fl} {v rv : Value} {ws : List Dk.W} {x : Wg.St} {lv rlv : Value} {sure : Nat} (w : World) (h : LD w base b d K v ws x lv sure) (r : RP w base' rb rd K rv ws x rlv sure) :
    Calls Tryd.prog 13 #[.pointer (some ⟨b, 0, none⟩), .pointer (some ⟨rb, 0, none⟩), .pointer (some ⟨d, 0, none⟩)] w fun e w' => e = .returned (.bool true) ∧ Kept w w' := by
  have X0 := Lib.hid h
  have R0 := Lib.hid r
  clear h r
  obtain ⟨P, hP, _, _⟩ := name_str x.st
  have HP := Lib.hid hP
  clear hP
  obtain ⟨F0, hF0⟩ : ∃ F, F = nowF K ws 0 := ⟨_, rfl⟩
  obtain ⟨F1, hF1⟩ : ∃ F, F = nowF K ws 1 := ⟨_, rfl⟩
  obtain ⟨KF, hKF⟩ : ∃ F, F = K 1 := ⟨_, rfl⟩
  obtain ⟨T, hT⟩ : ∃ T, T = Dk.total ws := ⟨_, rfl⟩
  have HF0 := Lib.hid hF0
  have HF1 := Lib.hid hF1
  have HKF := Lib.hid hKF
  have HTT := Lib.hid hT
  clear hF0 hF1 hKF hT
  obtain ⟨ar, cr, hform⟩ := R0.out.log.row.form
  have hrow := R0.out.log.row
  rw [hform] at hrow
  have HROW := Lib.hid hrow
  have C : Hid (SameC w b d rb rd x ar cr sure P F0 F1 KF T) := Lib.hid
    { ks := fun w' q => by
        obtain ⟨c0, c1, c2, c3, c4, _⟩ := rlcell (R0.out.kept q).log.blk
        rw [HP.out] at c2
        rw [hform] at c3
        exact ⟨c0, c1, c2, c3, c4⟩
      row := fun w' q => (HROW.out.kept q).strs
      rec_ := fun w' q => records_any w' (X0.out.kept q).log
      cState := fun w' q => by
        have := state_any w' (X0.out.kept q).log
        rwa [HP.out] at this
      cSure := fun w' q => sure_any w' (X0.out.kept q).log
      cRound := fun w' q => round_any w' (X0.out.kept q).log
      cR0 := fun w' q => read_is 0 F0 w' (X0.out.kept q).dsk (by rw [if_pos (by decide), HF0.out]; rfl)
      cS0 := fun w' q => rread_is 0 F0 w' (R0.out.kept q).dsk (by rw [if_pos (by decide), HF0.out]; rfl)
      cR1 := fun w' q => read_is 1 F1 w' (X0.out.kept q).dsk (by rw [if_pos (by decide), HF1.out]; rfl)
      cS1 := fun w' q => rread_is 1 F1 w' (R0.out.kept q).dsk (by rw [if_pos (by decide), HF1.out]; rfl)
      cU := fun w' q => units_is (T : Int) w' (X0.out.kept q).dsk (by rw [HTT.out])
      cV := fun w' q => runits_is (T : Int) w' (R0.out.kept q).dsk (by rw [HTT.out])
      cK := fun w' q => kept_is 1 KF w' (X0.out.kept q).dsk (by rw [if_pos (by decide), HKF.out]; rfl)
      cL := fun w' q => rkept_is 1 KF w' (R0.out.kept q).dsk (by rw [if_pos (by decide), HKF.out]; rfl)
    }
  clear hrow
  go_enter Tryd.func13, Tryd.ntmps13
  go_wp2_with fail
  rename_i K3 hK3
  refine regS (w0 := w) (by rfl) (fun _ _ _ _ _ h => h) C.out (fun a' w' h hd hk => ?_) _ rfl rfl rfl rfl rfl (Kept.refl w).drew
  refine hK3 _ _ ?_
  have hv : a'.tmps.getD 6 undef = .bool true := by rw [Array.getD_eq_getD_getElem?, h]; rfl
  have hr : (results Tryd.f13 a'.tmps).run Tryd.prog w' = .ok (.bool true) w' := by rw [← hv]; exact results_tmp rfl _ _ _
  have hpost : Ending.returned (.bool true) = .returned (.bool true) ∧ Kept w w' := ⟨rfl, hk⟩
  exact wp_ret (bodyPost_ret hr hd hpost)
end Go.Proofs.YtenhncohhikllaaDoor
