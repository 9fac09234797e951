/-
  The walk of the law's fixed calls (written by program: eight gets alike).
-/
import Derived.Test.YtlfmpoinjbmjoaaGreatDoorFkof
import Derived.Test.YtlfmpoinjbmjoaaGreatDoorFget
import Derived.Test.YtlfmpoinjbmjoaaGreatDoorFshow
import Derived.Test.YtlfmpoinjbmjoaaGreatDoorKref2
namespace Go.Proofs.YtlfmpoinjbmjoaaGreatDoor
open Go.ChangeShapes Go.WideShapes Go.ChangeAt Go.RowKit

def nameOf (k : Int) : ByteArray := if 1 ≤ k ∧ k ≤ 6 then kname (k - 1).toNat else ⟨#[]⟩
theorem field_kind (s : ByteArray) (p : Option Addr) (l c : Nat) (w : World) : (Instr.field 44 (.agg #[.string s, .slice p l c]) 0).run Tryz.prog w = .ok (.string s) w := by kernel_rfl
set_option maxHeartbeats 400000 in
theorem name_any (k : Int) (w : World) : Calls Tryz.prog 18 #[.int .i64 k] w fun r w' => r = .returned (.string (nameOf k)) ∧ Kept w w' := by
  have hfk := field_kind
  by_cases hk : 1 ≤ k ∧ k ≤ 6
  · have HX : Hid (nameOf k = kname (k - 1).toNat) := by show _ = _; rw [nameOf, if_pos hk]
    have HK := Lib.hid hk
    clear hk
    go_enter Tryz.func18, Tryz.ntmps18
    go_wp2_with fail
    refine (kinds_any _).mono ?_
    rintro r w1 ⟨m, rfl, hm, k1⟩
    obtain ⟨v, hv, hl0⟩ := hm.look k HK.out
    obtain ⟨b, rfl, hb⟩ := hv
    have hl := hl0 false
    clear hl0
    simp only [Bool.false_eq_true, if_false] at hl
    have K1 := Lib.hid k1
    generalize kname (k - 1).toNat = kn at hl HX
    generalize (kparts (k - 1).toNat).length = pn at hl
    clear k1 hb hm
    go_wp2
    go_ret
    exact ⟨by rw [HX.out]; rfl, K1.out⟩
  · have HX : Hid (nameOf k = ⟨#[]⟩) := by show _ = _; rw [nameOf, if_neg hk]
    have HK := Lib.hid hk
    clear hk
    go_enter Tryz.func18, Tryz.ntmps18
    go_wp2_with fail
    refine (kinds_any _).mono ?_
    rintro r w1 ⟨m, rfl, hm, k1⟩
    have hl := hm.miss k HK.out false
    simp only [Bool.false_eq_true, if_false] at hl
    have K1 := Lib.hid k1
    clear k1 hm
    go_wp2
    go_ret
    exact ⟨by rw [HX.out]; rfl, K1.out⟩
end Go.Proofs.YtlfmpoinjbmjoaaGreatDoor

namespace Go.Proofs.YtlfmpoinjbmjoaaGreatDoor
open Go.ChangeShapes Go.WideShapes Go.ChangeAt Go.RowKit

/-- a beat, a frame with an event, a want -/
def FB : Fr.F := ⟨5, 3, 0, 0, false, ⟨#[]⟩, .zero, []⟩
def FD : Fr.F := ⟨3, 1, 2, 0, false, ⟨#[]⟩, ⟨1, 1, ⟨#[97]⟩, ⟨#[120]⟩, 3⟩, []⟩
def FW : Fr.F := ⟨6, 1, 0, 0, true, ⟨#[97]⟩, .zero, []⟩
theorem fx_get0 : Fr.get (Ck.seal_ [5, 3]) = (FB, 0) := by decide +kernel
theorem fx_get1 : Fr.get (Ck.seal_ [7, 3]) = (.zero, 6) := by decide +kernel
theorem fx_get2 : Fr.get (Ck.seal_ [5, 0]) = (.zero, 4) := by decide +kernel
theorem fx_get3 : Fr.get (Ck.seal_ [5, 3] ++ [122]) = (.zero, 4) := by decide +kernel
theorem fx_get4 : Fr.get (Ck.seal_ [5]) = (.zero, 3) := by decide +kernel
theorem fx_get5 : Fr.get (Ck.seal_ [6, 1, 2, 1, 97]) = (.zero, 4) := by decide +kernel
theorem fx_get6 : Fr.get (Ck.seal_ [6, 1, 1, 1, 97]) = (FW, 0) := by decide +kernel
theorem fx_get7 : Fr.get (Ck.seal_ [5, 3, 0]) = (.zero, 4) := by decide +kernel
theorem fx_put : Fr.put FB = Ck.seal_ [5, 3] := by decide +kernel
theorem fx_right : Fr.right FD = true := by decide +kernel
theorem fx_rightb : Fr.right FB = true := by decide +kernel
theorem fx_right0 : Fr.right .zero = false := by decide +kernel
theorem fx_same : Fr.same FB FB = true := by decide +kernel
theorem fx_diff : Fr.same FB FD = false := by decide +kernel
theorem fx_name6 : nameOf 6 = ⟨#[119, 97, 110, 116]⟩ := by decide +kernel
theorem fx_name7 : nameOf 7 = ⟨#[]⟩ := by decide +kernel
theorem frs_of (w : World) (f : Fr.F) (hk : I64 f.k ∧ I64 f.ep ∧ I64 f.sq ∧ I64 f.cr) (hs : f.fl.size ≤ 65536 ∧ f.e.t.size ≤ 65536) (he : Fit f.e) (hm : f.ms = []) : FrS w f none 0 :=
  ⟨hk.1, hk.2.1, hk.2.2.1, hk.2.2.2, hs.1, hs.2, he, by rw [hm]; exact MkS.nil w⟩
theorem frs_b (w : World) : FrS w FB none 0 := frs_of w FB ⟨by unfold I64; decide, by unfold I64; decide, by unfold I64; decide, by unfold I64; decide⟩ ⟨by decide, by decide⟩ fit_zero rfl
theorem frs_d (w : World) : FrS w FD none 0 := frs_of w FD ⟨by unfold I64; decide, by unfold I64; decide, by unfold I64; decide, by unfold I64; decide⟩ ⟨by decide, by decide⟩ (by constructor <;> decide) rfl
def txtD : Fr.P → List UInt8
  | .ep => Lib.itoa 1
  | .sq _ => Lib.itoa 2
  | .ev => showv FD.e
  | _ => []
theorem show_d (w : World) : Calls Tryz.prog 14 #[frv FD none 0] w fun r w' => r = .returned (.string ⟨#[100, 97, 116, 97, 32, 49, 32, 50, 32, 49, 58, 49, 32, 97, 32, 49, 32, 51]⟩) ∧ Kept w w' := by
  have h := frshow_of FD none 0 w (frs_d w) fx_right txtD (fun p hp => by
    rw [show Fr.parts FD.k = [.ep, .sq 1, .ev] from rfl] at hp
    simp only [List.mem_cons, List.not_mem_nil, or_false] at hp
    rcases hp with rfl | rfl | rfl
    · exact ⟨by decide +kernel, fun W g hb => ep_show 1 g W (cell_of hb.blk 1 rfl) (.inl rfl)⟩
    · exact ⟨by decide +kernel, fun W g hb => sq_show 1 2 g W (cell_of hb.blk 2 rfl) (.inr (.inl rfl))⟩
    · exact ⟨by decide +kernel, fun W g hb => ev_show FD none 0 g W hb.blk hb.s.e hb.s.et (by decide)⟩)
  rw [show Lib.join ((kname (FD.k - 1).toNat).data.toList :: (Fr.parts FD.k).map txtD) [32] = [100, 97, 116, 97, 32, 49, 32, 50, 32, 49, 58, 49, 32, 97, 32, 49, 32, 51] by decide +kernel] at h
  exact h
theorem show_b (w : World) : Calls Tryz.prog 14 #[frv FB none 0] w fun r w' => r = .returned (.string ⟨#[98, 101, 97, 116, 32, 51]⟩) ∧ Kept w w' := by
  have h := frshow_of FB none 0 w (frs_b w) fx_rightb (fun _ => Lib.itoa 3) (fun p hp => by
    rw [show Fr.parts FB.k = [.ep] from rfl] at hp
    simp only [List.mem_cons, List.not_mem_nil, or_false] at hp
    subst hp
    exact ⟨by decide +kernel, fun W g hb => ep_show 3 g W (cell_of hb.blk 1 rfl) (.inr (.inr rfl))⟩)
  rw [show Lib.join ((kname (FB.k - 1).toNat).data.toList :: (Fr.parts FB.k).map (fun _ => Lib.itoa 3)) [32] = [98, 101, 97, 116, 32, 51] by decide +kernel] at h
  exact h

set_option maxHeartbeats 2000000 in
set_option maxRecDepth 100000 in
theorem fix_any (w : World) (hT : Tab w) : Calls Tryz.prog 20 #[] w fun r w' => r = .returned (.bool true) ∧ Kept w w' := by
  have HT := Lib.hid hT
  clear hT
  have b0 : Blk ((w.alloc (.cells (frc FB none 0) 26)).alloc (.cells (frc FD none 0) 26)) w.heap.size (frc FB none 0) 26 := (Blk.made w _ _).alloc _
  have d0 : Blk ((w.alloc (.cells (frc FB none 0) 26)).alloc (.cells (frc FD none 0) 26)) (w.heap.size + 1) (frc FD none 0) 26 := by
    have := Blk.made (w.alloc (.cells (frc FB none 0) 26)) (frc FD none 0) 26
    rwa [World.size_alloc] at this
  have k0 : Kept w ((w.alloc (.cells (frc FB none 0) 26)).alloc (.cells (frc FD none 0) 26)) := ((Kept.refl w).alloc _).alloc _
  obtain ⟨W0, hW0⟩ : ∃ W0, W0 = (w.alloc (.cells (frc FB none 0) 26)).alloc (.cells (frc FD none 0) 26) := ⟨_, rfl⟩
  rw [← hW0] at b0 d0 k0
  unfold frc FB FD at hW0
  simp only [Ev.E.zero, List.length_nil] at hW0
  have B0 := Lib.hid b0
  have D0 := Lib.hid d0
  have K0 := Lib.hid k0
  clear b0 d0 k0
  go_enter Tryz.func20, Tryz.ntmps20
  go_wp2_with fail
  rw [← hW0]
  clear hW0
  refine (refseal_any ⟨#[5, 3]⟩ _ (by decide)).mono ?_
  rintro r wa1 ⟨rfl, ka1⟩
  obtain ⟨A1, hA1, sA1, lA1⟩ := name_row (Ck.seal_ [5, 3])
  rw [show str (Ck.seal_ (⟨#[5, 3]⟩ : ByteArray).data.toList) = .string A1 from hA1]
  have zA1 : A1.size ≤ 100 := by rw [sA1]; decide +kernel
  have ta1 := Lib.hid (K0.out.trans ka1)
  have ka1' := Lib.hid ka1
  have gz1 : Hid (Fr.get A1.data.toList = (FB, 0)) := by show _ = _; rw [lA1]; exact fx_get0
  clear lA1 hA1 sA1 ka1
  go_wp2_with fail
  refine (frget_any A1 _ (by omega) (HT.out.kept ta1.out)).mono ?_
  rw [gz1.out]
  rintro r wb1 ⟨av1, cap1, rfl, fs1, kb1⟩
  have K1 : Hid (Kept w (wb1.alloc (.cells #[.int .i64 5, .int .i64 3, .int .i64 0, .int .i64 0, .bool false, .string ⟨#[]⟩, .int .i64 0, .int .i64 0, .string ⟨#[]⟩, .string ⟨#[]⟩, .int .i64 0, .slice av1 0 cap1] 26))) := (ta1.out.trans kb1).alloc _
  have X1 : Hid (Blk (wb1.alloc (.cells #[.int .i64 5, .int .i64 3, .int .i64 0, .int .i64 0, .bool false, .string ⟨#[]⟩, .int .i64 0, .int .i64 0, .string ⟨#[]⟩, .string ⟨#[]⟩, .int .i64 0, .slice av1 0 cap1] 26)) wb1.heap.size (frc FB av1 cap1) 26) := Blk.made wb1 _ _
  have J1 : Hid (Kept W0 (wb1.alloc (.cells #[.int .i64 5, .int .i64 3, .int .i64 0, .int .i64 0, .bool false, .string ⟨#[]⟩, .int .i64 0, .int .i64 0, .string ⟨#[]⟩, .string ⟨#[]⟩, .int .i64 0, .slice av1 0 cap1] 26))) := (ka1'.out.trans kb1).alloc _
  have M1 := Lib.hid fs1.ms
  have M1' := Lib.hid (M1.out.kept ((Kept.refl wb1).alloc (.cells #[.int .i64 5, .int .i64 3, .int .i64 0, .int .i64 0, .bool false, .string ⟨#[]⟩, .int .i64 0, .int .i64 0, .string ⟨#[]⟩, .string ⟨#[]⟩, .int .i64 0, .slice av1 0 cap1] 26)))
  clear fs1 kb1 ta1 zA1 ka1' M1
  rw [show frv FB av1 cap1 = .agg #[.int .i64 5, .int .i64 3, .int .i64 0, .int .i64 0, .bool false, .string ⟨#[]⟩, .int .i64 0, .int .i64 0, .string ⟨#[]⟩, .string ⟨#[]⟩, .int .i64 0, .slice av1 0 cap1] from rfl]
  go_wp2_with fail
  generalize wb1.alloc (.cells #[.int .i64 5, .int .i64 3, .int .i64 0, .int .i64 0, .bool false, .string ⟨#[]⟩, .int .i64 0, .int .i64 0, .string ⟨#[]⟩, .string ⟨#[]⟩, .int .i64 0, .slice av1 0 cap1] 26) = V1 at K1 X1 J1 M1' ⊢
  refine (refseal_any ⟨#[7, 3]⟩ _ (by decide)).mono ?_
  rintro r wa2 ⟨rfl, ka2⟩
  obtain ⟨A2, hA2, sA2, lA2⟩ := name_row (Ck.seal_ [7, 3])
  rw [show str (Ck.seal_ (⟨#[7, 3]⟩ : ByteArray).data.toList) = .string A2 from hA2]
  have zA2 : A2.size ≤ 100 := by rw [sA2]; decide +kernel
  have ta2 := Lib.hid (K1.out.trans ka2)
  have ka2' := Lib.hid ka2
  have gz2 : Hid (Fr.get A2.data.toList = (.zero, 6)) := by show _ = _; rw [lA2]; exact fx_get1
  clear lA2 hA2 sA2 ka2
  go_wp2_with fail
  refine (frget_any A2 _ (by omega) (HT.out.kept ta2.out)).mono ?_
  rw [gz2.out]
  rintro r wb2 ⟨av2, cap2, rfl, fs2, kb2⟩
  have K2 : Hid (Kept w (wb2.alloc (.cells #[.int .i64 0, .int .i64 0, .int .i64 0, .int .i64 0, .bool false, .string ⟨#[]⟩, .int .i64 0, .int .i64 0, .string ⟨#[]⟩, .string ⟨#[]⟩, .int .i64 0, .slice av2 0 cap2] 26))) := (ta2.out.trans kb2).alloc _
  have X2 : Hid (Blk (wb2.alloc (.cells #[.int .i64 0, .int .i64 0, .int .i64 0, .int .i64 0, .bool false, .string ⟨#[]⟩, .int .i64 0, .int .i64 0, .string ⟨#[]⟩, .string ⟨#[]⟩, .int .i64 0, .slice av2 0 cap2] 26)) wb2.heap.size (frc Fr.F.zero av2 cap2) 26) := Blk.made wb2 _ _
  have J2 : Hid (Kept V1 (wb2.alloc (.cells #[.int .i64 0, .int .i64 0, .int .i64 0, .int .i64 0, .bool false, .string ⟨#[]⟩, .int .i64 0, .int .i64 0, .string ⟨#[]⟩, .string ⟨#[]⟩, .int .i64 0, .slice av2 0 cap2] 26))) := (ka2'.out.trans kb2).alloc _
  have M2 := Lib.hid fs2.ms
  have M2' := Lib.hid (M2.out.kept ((Kept.refl wb2).alloc (.cells #[.int .i64 0, .int .i64 0, .int .i64 0, .int .i64 0, .bool false, .string ⟨#[]⟩, .int .i64 0, .int .i64 0, .string ⟨#[]⟩, .string ⟨#[]⟩, .int .i64 0, .slice av2 0 cap2] 26)))
  clear fs2 kb2 ta2 zA2 ka2' M2
  rw [show frv Fr.F.zero av2 cap2 = .agg #[.int .i64 0, .int .i64 0, .int .i64 0, .int .i64 0, .bool false, .string ⟨#[]⟩, .int .i64 0, .int .i64 0, .string ⟨#[]⟩, .string ⟨#[]⟩, .int .i64 0, .slice av2 0 cap2] from rfl]
  go_wp2_with fail
  generalize wb2.alloc (.cells #[.int .i64 0, .int .i64 0, .int .i64 0, .int .i64 0, .bool false, .string ⟨#[]⟩, .int .i64 0, .int .i64 0, .string ⟨#[]⟩, .string ⟨#[]⟩, .int .i64 0, .slice av2 0 cap2] 26) = V2 at K2 X2 J2 M2' ⊢
  refine (refseal_any ⟨#[5, 0]⟩ _ (by decide)).mono ?_
  rintro r wa3 ⟨rfl, ka3⟩
  obtain ⟨A3, hA3, sA3, lA3⟩ := name_row (Ck.seal_ [5, 0])
  rw [show str (Ck.seal_ (⟨#[5, 0]⟩ : ByteArray).data.toList) = .string A3 from hA3]
  have zA3 : A3.size ≤ 100 := by rw [sA3]; decide +kernel
  have ta3 := Lib.hid (K2.out.trans ka3)
  have ka3' := Lib.hid ka3
  have gz3 : Hid (Fr.get A3.data.toList = (.zero, 4)) := by show _ = _; rw [lA3]; exact fx_get2
  clear lA3 hA3 sA3 ka3
  go_wp2_with fail
  refine (frget_any A3 _ (by omega) (HT.out.kept ta3.out)).mono ?_
  rw [gz3.out]
  rintro r wb3 ⟨av3, cap3, rfl, fs3, kb3⟩
  have K3 : Hid (Kept w (wb3.alloc (.cells #[.int .i64 0, .int .i64 0, .int .i64 0, .int .i64 0, .bool false, .string ⟨#[]⟩, .int .i64 0, .int .i64 0, .string ⟨#[]⟩, .string ⟨#[]⟩, .int .i64 0, .slice av3 0 cap3] 26))) := (ta3.out.trans kb3).alloc _
  have X3 : Hid (Blk (wb3.alloc (.cells #[.int .i64 0, .int .i64 0, .int .i64 0, .int .i64 0, .bool false, .string ⟨#[]⟩, .int .i64 0, .int .i64 0, .string ⟨#[]⟩, .string ⟨#[]⟩, .int .i64 0, .slice av3 0 cap3] 26)) wb3.heap.size (frc Fr.F.zero av3 cap3) 26) := Blk.made wb3 _ _
  have J3 : Hid (Kept V2 (wb3.alloc (.cells #[.int .i64 0, .int .i64 0, .int .i64 0, .int .i64 0, .bool false, .string ⟨#[]⟩, .int .i64 0, .int .i64 0, .string ⟨#[]⟩, .string ⟨#[]⟩, .int .i64 0, .slice av3 0 cap3] 26))) := (ka3'.out.trans kb3).alloc _
  have M3 := Lib.hid fs3.ms
  have M3' := Lib.hid (M3.out.kept ((Kept.refl wb3).alloc (.cells #[.int .i64 0, .int .i64 0, .int .i64 0, .int .i64 0, .bool false, .string ⟨#[]⟩, .int .i64 0, .int .i64 0, .string ⟨#[]⟩, .string ⟨#[]⟩, .int .i64 0, .slice av3 0 cap3] 26)))
  clear fs3 kb3 ta3 zA3 ka3' M3
  rw [show frv Fr.F.zero av3 cap3 = .agg #[.int .i64 0, .int .i64 0, .int .i64 0, .int .i64 0, .bool false, .string ⟨#[]⟩, .int .i64 0, .int .i64 0, .string ⟨#[]⟩, .string ⟨#[]⟩, .int .i64 0, .slice av3 0 cap3] from rfl]
  go_wp2_with fail
  generalize wb3.alloc (.cells #[.int .i64 0, .int .i64 0, .int .i64 0, .int .i64 0, .bool false, .string ⟨#[]⟩, .int .i64 0, .int .i64 0, .string ⟨#[]⟩, .string ⟨#[]⟩, .int .i64 0, .slice av3 0 cap3] 26) = V3 at K3 X3 J3 M3' ⊢
  refine (refseal_any ⟨#[5, 3]⟩ _ (by decide)).mono ?_
  rintro r wa4 ⟨rfl, ka4⟩
  obtain ⟨A4, hA4, sA4, lA4⟩ := name_row (Ck.seal_ [5, 3])
  rw [show str (Ck.seal_ (⟨#[5, 3]⟩ : ByteArray).data.toList) = .string A4 from hA4]
  have zA4 : A4.size ≤ 100 := by rw [sA4]; decide +kernel
  have ta4 := Lib.hid (K3.out.trans ka4)
  have ka4' := Lib.hid ka4
  obtain ⟨Z4, hZ4⟩ : ∃ Z : ByteArray, Z = A4 ++ ⟨#[122]⟩ := ⟨_, rfl⟩
  have zZ4 : Z4.size ≤ 101 := by rw [hZ4, ByteArray.size_append]; have : (ByteArray.mk #[122]).size = 1 := rfl; omega
  have gz4 : Fr.get Z4.data.toList = (.zero, 4) := by rw [hZ4, ByteArray.data_append, Array.toList_append, lA4]; exact fx_get3
  have HZ4 := Lib.hid hZ4
  have GZ4 := Lib.hid gz4
  clear gz4 lA4 hA4 sA4 ka4
  go_wp2_with fail
  rw [← HZ4.out]
  refine (frget_any Z4 _ (by omega) (HT.out.kept ta4.out)).mono ?_
  rw [GZ4.out]
  rintro r wb4 ⟨av4, cap4, rfl, fs4, kb4⟩
  have K4 : Hid (Kept w (wb4.alloc (.cells #[.int .i64 0, .int .i64 0, .int .i64 0, .int .i64 0, .bool false, .string ⟨#[]⟩, .int .i64 0, .int .i64 0, .string ⟨#[]⟩, .string ⟨#[]⟩, .int .i64 0, .slice av4 0 cap4] 26))) := (ta4.out.trans kb4).alloc _
  have X4 : Hid (Blk (wb4.alloc (.cells #[.int .i64 0, .int .i64 0, .int .i64 0, .int .i64 0, .bool false, .string ⟨#[]⟩, .int .i64 0, .int .i64 0, .string ⟨#[]⟩, .string ⟨#[]⟩, .int .i64 0, .slice av4 0 cap4] 26)) wb4.heap.size (frc Fr.F.zero av4 cap4) 26) := Blk.made wb4 _ _
  have J4 : Hid (Kept V3 (wb4.alloc (.cells #[.int .i64 0, .int .i64 0, .int .i64 0, .int .i64 0, .bool false, .string ⟨#[]⟩, .int .i64 0, .int .i64 0, .string ⟨#[]⟩, .string ⟨#[]⟩, .int .i64 0, .slice av4 0 cap4] 26))) := (ka4'.out.trans kb4).alloc _
  have M4 := Lib.hid fs4.ms
  have M4' := Lib.hid (M4.out.kept ((Kept.refl wb4).alloc (.cells #[.int .i64 0, .int .i64 0, .int .i64 0, .int .i64 0, .bool false, .string ⟨#[]⟩, .int .i64 0, .int .i64 0, .string ⟨#[]⟩, .string ⟨#[]⟩, .int .i64 0, .slice av4 0 cap4] 26)))
  clear fs4 kb4 ta4 zA4 ka4' M4
  rw [show frv Fr.F.zero av4 cap4 = .agg #[.int .i64 0, .int .i64 0, .int .i64 0, .int .i64 0, .bool false, .string ⟨#[]⟩, .int .i64 0, .int .i64 0, .string ⟨#[]⟩, .string ⟨#[]⟩, .int .i64 0, .slice av4 0 cap4] from rfl]
  go_wp2_with fail
  generalize wb4.alloc (.cells #[.int .i64 0, .int .i64 0, .int .i64 0, .int .i64 0, .bool false, .string ⟨#[]⟩, .int .i64 0, .int .i64 0, .string ⟨#[]⟩, .string ⟨#[]⟩, .int .i64 0, .slice av4 0 cap4] 26) = V4 at K4 X4 J4 M4' ⊢
  refine (refseal_any ⟨#[5]⟩ _ (by decide)).mono ?_
  rintro r wa5 ⟨rfl, ka5⟩
  obtain ⟨A5, hA5, sA5, lA5⟩ := name_row (Ck.seal_ [5])
  rw [show str (Ck.seal_ (⟨#[5]⟩ : ByteArray).data.toList) = .string A5 from hA5]
  have zA5 : A5.size ≤ 100 := by rw [sA5]; decide +kernel
  have ta5 := Lib.hid (K4.out.trans ka5)
  have ka5' := Lib.hid ka5
  have gz5 : Hid (Fr.get A5.data.toList = (.zero, 3)) := by show _ = _; rw [lA5]; exact fx_get4
  clear lA5 hA5 sA5 ka5
  go_wp2_with fail
  refine (frget_any A5 _ (by omega) (HT.out.kept ta5.out)).mono ?_
  rw [gz5.out]
  rintro r wb5 ⟨av5, cap5, rfl, fs5, kb5⟩
  have K5 : Hid (Kept w (wb5.alloc (.cells #[.int .i64 0, .int .i64 0, .int .i64 0, .int .i64 0, .bool false, .string ⟨#[]⟩, .int .i64 0, .int .i64 0, .string ⟨#[]⟩, .string ⟨#[]⟩, .int .i64 0, .slice av5 0 cap5] 26))) := (ta5.out.trans kb5).alloc _
  have X5 : Hid (Blk (wb5.alloc (.cells #[.int .i64 0, .int .i64 0, .int .i64 0, .int .i64 0, .bool false, .string ⟨#[]⟩, .int .i64 0, .int .i64 0, .string ⟨#[]⟩, .string ⟨#[]⟩, .int .i64 0, .slice av5 0 cap5] 26)) wb5.heap.size (frc Fr.F.zero av5 cap5) 26) := Blk.made wb5 _ _
  have J5 : Hid (Kept V4 (wb5.alloc (.cells #[.int .i64 0, .int .i64 0, .int .i64 0, .int .i64 0, .bool false, .string ⟨#[]⟩, .int .i64 0, .int .i64 0, .string ⟨#[]⟩, .string ⟨#[]⟩, .int .i64 0, .slice av5 0 cap5] 26))) := (ka5'.out.trans kb5).alloc _
  have M5 := Lib.hid fs5.ms
  have M5' := Lib.hid (M5.out.kept ((Kept.refl wb5).alloc (.cells #[.int .i64 0, .int .i64 0, .int .i64 0, .int .i64 0, .bool false, .string ⟨#[]⟩, .int .i64 0, .int .i64 0, .string ⟨#[]⟩, .string ⟨#[]⟩, .int .i64 0, .slice av5 0 cap5] 26)))
  clear fs5 kb5 ta5 zA5 ka5' M5
  rw [show frv Fr.F.zero av5 cap5 = .agg #[.int .i64 0, .int .i64 0, .int .i64 0, .int .i64 0, .bool false, .string ⟨#[]⟩, .int .i64 0, .int .i64 0, .string ⟨#[]⟩, .string ⟨#[]⟩, .int .i64 0, .slice av5 0 cap5] from rfl]
  go_wp2_with fail
  generalize wb5.alloc (.cells #[.int .i64 0, .int .i64 0, .int .i64 0, .int .i64 0, .bool false, .string ⟨#[]⟩, .int .i64 0, .int .i64 0, .string ⟨#[]⟩, .string ⟨#[]⟩, .int .i64 0, .slice av5 0 cap5] 26) = V5 at K5 X5 J5 M5' ⊢
  refine (refseal_any ⟨#[6, 1, 2, 1, 97]⟩ _ (by decide)).mono ?_
  rintro r wa6 ⟨rfl, ka6⟩
  obtain ⟨A6, hA6, sA6, lA6⟩ := name_row (Ck.seal_ [6, 1, 2, 1, 97])
  rw [show str (Ck.seal_ (⟨#[6, 1, 2, 1, 97]⟩ : ByteArray).data.toList) = .string A6 from hA6]
  have zA6 : A6.size ≤ 100 := by rw [sA6]; decide +kernel
  have ta6 := Lib.hid (K5.out.trans ka6)
  have ka6' := Lib.hid ka6
  have gz6 : Hid (Fr.get A6.data.toList = (.zero, 4)) := by show _ = _; rw [lA6]; exact fx_get5
  clear lA6 hA6 sA6 ka6
  go_wp2_with fail
  refine (frget_any A6 _ (by omega) (HT.out.kept ta6.out)).mono ?_
  rw [gz6.out]
  rintro r wb6 ⟨av6, cap6, rfl, fs6, kb6⟩
  have K6 : Hid (Kept w (wb6.alloc (.cells #[.int .i64 0, .int .i64 0, .int .i64 0, .int .i64 0, .bool false, .string ⟨#[]⟩, .int .i64 0, .int .i64 0, .string ⟨#[]⟩, .string ⟨#[]⟩, .int .i64 0, .slice av6 0 cap6] 26))) := (ta6.out.trans kb6).alloc _
  have X6 : Hid (Blk (wb6.alloc (.cells #[.int .i64 0, .int .i64 0, .int .i64 0, .int .i64 0, .bool false, .string ⟨#[]⟩, .int .i64 0, .int .i64 0, .string ⟨#[]⟩, .string ⟨#[]⟩, .int .i64 0, .slice av6 0 cap6] 26)) wb6.heap.size (frc Fr.F.zero av6 cap6) 26) := Blk.made wb6 _ _
  have J6 : Hid (Kept V5 (wb6.alloc (.cells #[.int .i64 0, .int .i64 0, .int .i64 0, .int .i64 0, .bool false, .string ⟨#[]⟩, .int .i64 0, .int .i64 0, .string ⟨#[]⟩, .string ⟨#[]⟩, .int .i64 0, .slice av6 0 cap6] 26))) := (ka6'.out.trans kb6).alloc _
  have M6 := Lib.hid fs6.ms
  have M6' := Lib.hid (M6.out.kept ((Kept.refl wb6).alloc (.cells #[.int .i64 0, .int .i64 0, .int .i64 0, .int .i64 0, .bool false, .string ⟨#[]⟩, .int .i64 0, .int .i64 0, .string ⟨#[]⟩, .string ⟨#[]⟩, .int .i64 0, .slice av6 0 cap6] 26)))
  clear fs6 kb6 ta6 zA6 ka6' M6
  rw [show frv Fr.F.zero av6 cap6 = .agg #[.int .i64 0, .int .i64 0, .int .i64 0, .int .i64 0, .bool false, .string ⟨#[]⟩, .int .i64 0, .int .i64 0, .string ⟨#[]⟩, .string ⟨#[]⟩, .int .i64 0, .slice av6 0 cap6] from rfl]
  go_wp2_with fail
  generalize wb6.alloc (.cells #[.int .i64 0, .int .i64 0, .int .i64 0, .int .i64 0, .bool false, .string ⟨#[]⟩, .int .i64 0, .int .i64 0, .string ⟨#[]⟩, .string ⟨#[]⟩, .int .i64 0, .slice av6 0 cap6] 26) = V6 at K6 X6 J6 M6' ⊢
  refine (refseal_any ⟨#[6, 1, 1, 1, 97]⟩ _ (by decide)).mono ?_
  rintro r wa7 ⟨rfl, ka7⟩
  obtain ⟨A7, hA7, sA7, lA7⟩ := name_row (Ck.seal_ [6, 1, 1, 1, 97])
  rw [show str (Ck.seal_ (⟨#[6, 1, 1, 1, 97]⟩ : ByteArray).data.toList) = .string A7 from hA7]
  have zA7 : A7.size ≤ 100 := by rw [sA7]; decide +kernel
  have ta7 := Lib.hid (K6.out.trans ka7)
  have ka7' := Lib.hid ka7
  have gz7 : Hid (Fr.get A7.data.toList = (FW, 0)) := by show _ = _; rw [lA7]; exact fx_get6
  clear lA7 hA7 sA7 ka7
  go_wp2_with fail
  refine (frget_any A7 _ (by omega) (HT.out.kept ta7.out)).mono ?_
  rw [gz7.out]
  rintro r wb7 ⟨av7, cap7, rfl, fs7, kb7⟩
  have K7 : Hid (Kept w (wb7.alloc (.cells #[.int .i64 6, .int .i64 1, .int .i64 0, .int .i64 0, .bool true, .string ⟨#[97]⟩, .int .i64 0, .int .i64 0, .string ⟨#[]⟩, .string ⟨#[]⟩, .int .i64 0, .slice av7 0 cap7] 26))) := (ta7.out.trans kb7).alloc _
  have X7 : Hid (Blk (wb7.alloc (.cells #[.int .i64 6, .int .i64 1, .int .i64 0, .int .i64 0, .bool true, .string ⟨#[97]⟩, .int .i64 0, .int .i64 0, .string ⟨#[]⟩, .string ⟨#[]⟩, .int .i64 0, .slice av7 0 cap7] 26)) wb7.heap.size (frc FW av7 cap7) 26) := Blk.made wb7 _ _
  have J7 : Hid (Kept V6 (wb7.alloc (.cells #[.int .i64 6, .int .i64 1, .int .i64 0, .int .i64 0, .bool true, .string ⟨#[97]⟩, .int .i64 0, .int .i64 0, .string ⟨#[]⟩, .string ⟨#[]⟩, .int .i64 0, .slice av7 0 cap7] 26))) := (ka7'.out.trans kb7).alloc _
  have M7 := Lib.hid fs7.ms
  have M7' := Lib.hid (M7.out.kept ((Kept.refl wb7).alloc (.cells #[.int .i64 6, .int .i64 1, .int .i64 0, .int .i64 0, .bool true, .string ⟨#[97]⟩, .int .i64 0, .int .i64 0, .string ⟨#[]⟩, .string ⟨#[]⟩, .int .i64 0, .slice av7 0 cap7] 26)))
  clear fs7 kb7 ta7 zA7 ka7' M7
  rw [show frv FW av7 cap7 = .agg #[.int .i64 6, .int .i64 1, .int .i64 0, .int .i64 0, .bool true, .string ⟨#[97]⟩, .int .i64 0, .int .i64 0, .string ⟨#[]⟩, .string ⟨#[]⟩, .int .i64 0, .slice av7 0 cap7] from rfl]
  go_wp2_with fail
  generalize wb7.alloc (.cells #[.int .i64 6, .int .i64 1, .int .i64 0, .int .i64 0, .bool true, .string ⟨#[97]⟩, .int .i64 0, .int .i64 0, .string ⟨#[]⟩, .string ⟨#[]⟩, .int .i64 0, .slice av7 0 cap7] 26) = V7 at K7 X7 J7 M7' ⊢
  refine (refseal_any ⟨#[5, 3, 0]⟩ _ (by decide)).mono ?_
  rintro r wa8 ⟨rfl, ka8⟩
  obtain ⟨A8, hA8, sA8, lA8⟩ := name_row (Ck.seal_ [5, 3, 0])
  rw [show str (Ck.seal_ (⟨#[5, 3, 0]⟩ : ByteArray).data.toList) = .string A8 from hA8]
  have zA8 : A8.size ≤ 100 := by rw [sA8]; decide +kernel
  have ta8 := Lib.hid (K7.out.trans ka8)
  have ka8' := Lib.hid ka8
  have gz8 : Hid (Fr.get A8.data.toList = (.zero, 4)) := by show _ = _; rw [lA8]; exact fx_get7
  clear lA8 hA8 sA8 ka8
  go_wp2_with fail
  refine (frget_any A8 _ (by omega) (HT.out.kept ta8.out)).mono ?_
  rw [gz8.out]
  rintro r wb8 ⟨av8, cap8, rfl, fs8, kb8⟩
  have kv7 : Kept W0 V7 := ((((((J1.out.trans J2.out).trans J3.out).trans J4.out).trans J5.out).trans J6.out).trans J7.out)
  have k78 : Kept V7 wb8 := ka8'.out.trans kb8
  have B8 := Lib.hid (B0.out.kept (kv7.trans k78))
  have D8 := Lib.hid (D0.out.kept (kv7.trans k78))
  have k27 : Kept V1 V7 := (((((J2.out.trans J3.out).trans J4.out).trans J5.out).trans J6.out).trans J7.out)
  have X8 := Lib.hid (X1.out.kept (k27.trans k78))
  have W8 := Lib.hid (X7.out.kept k78)
  have M8 := Lib.hid (M1'.out.kept (k27.trans k78))
  have hlb : w.heap.size < wb8.heap.size := B8.out.lt
  have c0 : wb8.cell? ⟨w.heap.size, 0, none⟩ = some (.int .i64 5) := cell_of B8.out 0 rfl
  have c1 : wb8.cell? ⟨w.heap.size, 1, none⟩ = some (.int .i64 3) := cell_of B8.out 1 rfl
  have c2 : wb8.cell? ⟨w.heap.size, 2, none⟩ = some (.int .i64 0) := cell_of B8.out 2 rfl
  have c3 : wb8.cell? ⟨w.heap.size, 3, none⟩ = some (.int .i64 0) := cell_of B8.out 3 rfl
  have c4 : wb8.cell? ⟨w.heap.size, 4, none⟩ = some (.bool false) := cell_of B8.out 4 rfl
  have c5 : wb8.cell? ⟨w.heap.size, 5, none⟩ = some (.string ⟨#[]⟩) := cell_of B8.out 5 rfl
  have c6 : wb8.cell? ⟨w.heap.size, 6, none⟩ = some (.int .i64 0) := cell_of B8.out 6 rfl
  have c7 : wb8.cell? ⟨w.heap.size, 7, none⟩ = some (.int .i64 0) := cell_of B8.out 7 rfl
  have c8 : wb8.cell? ⟨w.heap.size, 8, none⟩ = some (.string ⟨#[]⟩) := cell_of B8.out 8 rfl
  have c9 : wb8.cell? ⟨w.heap.size, 9, none⟩ = some (.string ⟨#[]⟩) := cell_of B8.out 9 rfl
  have c10 : wb8.cell? ⟨w.heap.size, 10, none⟩ = some (.int .i64 0) := cell_of B8.out 10 rfl
  have c11 : wb8.cell? ⟨w.heap.size, 11, none⟩ = some (.slice none 0 0) := cell_of B8.out 11 rfl
  have kx8 : Kept wb8 (wb8.alloc (.cells #[.int .i64 0, .int .i64 0, .int .i64 0, .int .i64 0, .bool false, .string ⟨#[]⟩, .int .i64 0, .int .i64 0, .string ⟨#[]⟩, .string ⟨#[]⟩, .int .i64 0, .slice av8 0 cap8] 26)) := (Kept.refl wb8).alloc _
  have KV : Hid (Kept w (wb8.alloc (.cells #[.int .i64 0, .int .i64 0, .int .i64 0, .int .i64 0, .bool false, .string ⟨#[]⟩, .int .i64 0, .int .i64 0, .string ⟨#[]⟩, .string ⟨#[]⟩, .int .i64 0, .slice av8 0 cap8] 26))) := (ta8.out.trans kb8).alloc _
  have BV := Lib.hid (B8.out.kept kx8)
  have DV := Lib.hid (D8.out.kept kx8)
  have XV := Lib.hid (X8.out.kept kx8)
  have WV := Lib.hid (W8.out.kept kx8)
  have MV := Lib.hid (M8.out.kept kx8)
  clear fs8 kb8 ta8 zA8 ka8' kv7 k78 k27 kx8 B8 D8 X8 W8 M8 J1 J2 J3 J4 J5 J6 J7 K1 K2 K3 K4 K5 K6 K7 X1 X2 X3 X4 X5 X6 X7 M1' M2' M3' M4' M5' M6' M7' B0 D0 K0 gz1 gz2 gz3 GZ4 HZ4 hZ4 zZ4 gz5 gz6 gz7 gz8
  rw [show frv Fr.F.zero av8 cap8 = .agg #[.int .i64 0, .int .i64 0, .int .i64 0, .int .i64 0, .bool false, .string ⟨#[]⟩, .int .i64 0, .int .i64 0, .string ⟨#[]⟩, .string ⟨#[]⟩, .int .i64 0, .slice av8 0 cap8] from rfl]
  go_wp2_with fail
  generalize wb8.alloc (.cells #[.int .i64 0, .int .i64 0, .int .i64 0, .int .i64 0, .bool false, .string ⟨#[]⟩, .int .i64 0, .int .i64 0, .string ⟨#[]⟩, .string ⟨#[]⟩, .int .i64 0, .slice av8 0 cap8] 26) = V at KV BV DV XV WV MV ⊢
  clear c0 c1 c2 c3 c4 c5 c6 c7 c8 c9 c10 c11 hlb
  have tb0 := KW.cell (show V.cell? ⟨w.heap.size, 0, none⟩ = some (.int .i64 5) from cell_of BV.out 0 rfl)
  have td0 := KW.cell (show V.cell? ⟨w.heap.size + 1, 0, none⟩ = some (.int .i64 3) from cell_of DV.out 0 rfl)
  have tx0 := KW.cell (show V.cell? ⟨wb1.heap.size, 0, none⟩ = some (.int .i64 5) from cell_of XV.out 0 rfl)
  have tb1 := KW.cell (show V.cell? ⟨w.heap.size, 1, none⟩ = some (.int .i64 3) from cell_of BV.out 1 rfl)
  have td1 := KW.cell (show V.cell? ⟨w.heap.size + 1, 1, none⟩ = some (.int .i64 1) from cell_of DV.out 1 rfl)
  have tx1 := KW.cell (show V.cell? ⟨wb1.heap.size, 1, none⟩ = some (.int .i64 3) from cell_of XV.out 1 rfl)
  have tb2 := KW.cell (show V.cell? ⟨w.heap.size, 2, none⟩ = some (.int .i64 0) from cell_of BV.out 2 rfl)
  have td2 := KW.cell (show V.cell? ⟨w.heap.size + 1, 2, none⟩ = some (.int .i64 2) from cell_of DV.out 2 rfl)
  have tx2 := KW.cell (show V.cell? ⟨wb1.heap.size, 2, none⟩ = some (.int .i64 0) from cell_of XV.out 2 rfl)
  have tb3 := KW.cell (show V.cell? ⟨w.heap.size, 3, none⟩ = some (.int .i64 0) from cell_of BV.out 3 rfl)
  have td3 := KW.cell (show V.cell? ⟨w.heap.size + 1, 3, none⟩ = some (.int .i64 0) from cell_of DV.out 3 rfl)
  have tx3 := KW.cell (show V.cell? ⟨wb1.heap.size, 3, none⟩ = some (.int .i64 0) from cell_of XV.out 3 rfl)
  have tb4 := KW.cell (show V.cell? ⟨w.heap.size, 4, none⟩ = some (.bool false) from cell_of BV.out 4 rfl)
  have td4 := KW.cell (show V.cell? ⟨w.heap.size + 1, 4, none⟩ = some (.bool false) from cell_of DV.out 4 rfl)
  have tx4 := KW.cell (show V.cell? ⟨wb1.heap.size, 4, none⟩ = some (.bool false) from cell_of XV.out 4 rfl)
  have tb5 := KW.cell (show V.cell? ⟨w.heap.size, 5, none⟩ = some (.string ⟨#[]⟩) from cell_of BV.out 5 rfl)
  have td5 := KW.cell (show V.cell? ⟨w.heap.size + 1, 5, none⟩ = some (.string ⟨#[]⟩) from cell_of DV.out 5 rfl)
  have tx5 := KW.cell (show V.cell? ⟨wb1.heap.size, 5, none⟩ = some (.string ⟨#[]⟩) from cell_of XV.out 5 rfl)
  have tb6 := KW.cell (show V.cell? ⟨w.heap.size, 6, none⟩ = some (.int .i64 0) from cell_of BV.out 6 rfl)
  have td6 := KW.cell (show V.cell? ⟨w.heap.size + 1, 6, none⟩ = some (.int .i64 1) from cell_of DV.out 6 rfl)
  have tx6 := KW.cell (show V.cell? ⟨wb1.heap.size, 6, none⟩ = some (.int .i64 0) from cell_of XV.out 6 rfl)
  have tb7 := KW.cell (show V.cell? ⟨w.heap.size, 7, none⟩ = some (.int .i64 0) from cell_of BV.out 7 rfl)
  have td7 := KW.cell (show V.cell? ⟨w.heap.size + 1, 7, none⟩ = some (.int .i64 1) from cell_of DV.out 7 rfl)
  have tx7 := KW.cell (show V.cell? ⟨wb1.heap.size, 7, none⟩ = some (.int .i64 0) from cell_of XV.out 7 rfl)
  have tb8 := KW.cell (show V.cell? ⟨w.heap.size, 8, none⟩ = some (.string ⟨#[]⟩) from cell_of BV.out 8 rfl)
  have td8 := KW.cell (show V.cell? ⟨w.heap.size + 1, 8, none⟩ = some (.string ⟨#[97]⟩) from cell_of DV.out 8 rfl)
  have tx8 := KW.cell (show V.cell? ⟨wb1.heap.size, 8, none⟩ = some (.string ⟨#[]⟩) from cell_of XV.out 8 rfl)
  have tb9 := KW.cell (show V.cell? ⟨w.heap.size, 9, none⟩ = some (.string ⟨#[]⟩) from cell_of BV.out 9 rfl)
  have td9 := KW.cell (show V.cell? ⟨w.heap.size + 1, 9, none⟩ = some (.string ⟨#[120]⟩) from cell_of DV.out 9 rfl)
  have tx9 := KW.cell (show V.cell? ⟨wb1.heap.size, 9, none⟩ = some (.string ⟨#[]⟩) from cell_of XV.out 9 rfl)
  have tb10 := KW.cell (show V.cell? ⟨w.heap.size, 10, none⟩ = some (.int .i64 0) from cell_of BV.out 10 rfl)
  have td10 := KW.cell (show V.cell? ⟨w.heap.size + 1, 10, none⟩ = some (.int .i64 3) from cell_of DV.out 10 rfl)
  have tx10 := KW.cell (show V.cell? ⟨wb1.heap.size, 10, none⟩ = some (.int .i64 0) from cell_of XV.out 10 rfl)
  have tb11 := KW.cell (show V.cell? ⟨w.heap.size, 11, none⟩ = some (.slice none 0 0) from cell_of BV.out 11 rfl)
  have td11 := KW.cell (show V.cell? ⟨w.heap.size + 1, 11, none⟩ = some (.slice none 0 0) from cell_of DV.out 11 rfl)
  have tx11 := KW.cell (show V.cell? ⟨wb1.heap.size, 11, none⟩ = some (.slice av1 0 cap1) from cell_of XV.out 11 rfl)
  have tw4 := KW.cell (show V.cell? ⟨wb7.heap.size, 4, none⟩ = some (.bool true) from cell_of WV.out 4 rfl)
  have tw5 := KW.cell (show V.cell? ⟨wb7.heap.size, 5, none⟩ = some (.string ⟨#[97]⟩) from cell_of WV.out 5 rfl)
  obtain ⟨P, hP, _, _⟩ := name_row (Ck.seal_ [5, 3])
  have HPP := Lib.hid hP
  clear hP
  have C1 : Hid (Calls Tryz.prog 12 #[frv FB none 0] V fun r w' => r = .returned (.string P) ∧ Kept V w') := by
    have h := frput_any FB none 0 V (frs_b V) (HT.out.kept KV.out)
    rw [fx_put, HPP.out] at h
    exact h
  rw [show frv FB none 0 = .agg #[.int .i64 5, .int .i64 3, .int .i64 0, .int .i64 0, .bool false, .string ⟨#[]⟩, .int .i64 0, .int .i64 0, .string ⟨#[]⟩, .string ⟨#[]⟩, .int .i64 0, .slice none 0 0] from rfl] at C1
  have C2 : Hid (∀ p : KW V, Calls Tryz.prog 23 #[.string ⟨#[5, 3]⟩] p.v fun r w' => r = .returned (.string P) ∧ Kept p.v w') := fun p => (refseal_any ⟨#[5, 3]⟩ p.v (by decide)).mono fun _ _ h => ⟨h.1.trans (by rw [show str (Ck.seal_ (⟨#[5, 3]⟩ : ByteArray).data.toList) = .string P from HPP.out]), h.2⟩
  have C3 : Hid (∀ p : KW V, Calls Tryz.prog 16 #[.agg #[.int .i64 5, .int .i64 3, .int .i64 0, .int .i64 0, .bool false, .string ⟨#[]⟩, .int .i64 0, .int .i64 0, .string ⟨#[]⟩, .string ⟨#[]⟩, .int .i64 0, .slice av1 0 cap1], .agg #[.int .i64 5, .int .i64 3, .int .i64 0, .int .i64 0, .bool false, .string ⟨#[]⟩, .int .i64 0, .int .i64 0, .string ⟨#[]⟩, .string ⟨#[]⟩, .int .i64 0, .slice none 0 0]] p.v fun r w' => r = .returned (.bool true) ∧ Kept p.v w') := fun p => (same_fr FB FB av1 none cap1 0 p.v (MV.out.kept p.h) (MkS.nil _)).mono fun _ _ h => ⟨h.1.trans (by rw [fx_same]), h.2⟩
  have C4 : Hid (∀ p : KW V, Calls Tryz.prog 10 #[.agg #[.int .i64 3, .int .i64 1, .int .i64 2, .int .i64 0, .bool false, .string ⟨#[]⟩, .int .i64 1, .int .i64 1, .string ⟨#[97]⟩, .string ⟨#[120]⟩, .int .i64 3, .slice none 0 0]] p.v fun r w' => r = .returned (.bool true) ∧ Kept p.v w') := fun p => (frright_any FD none 0 p.v (frs_d _)).mono fun _ _ h => ⟨h.1.trans (by rw [fx_right]), h.2⟩
  have C5 : Hid (∀ p : KW V, Calls Tryz.prog 10 #[.agg #[.int .i64 0, .int .i64 0, .int .i64 0, .int .i64 0, .bool false, .string ⟨#[]⟩, .int .i64 0, .int .i64 0, .string ⟨#[]⟩, .string ⟨#[]⟩, .int .i64 0, .slice none 0 0]] p.v fun r w' => r = .returned (.bool false) ∧ Kept p.v w') := fun p => (frright_any .zero none 0 p.v (frs_zero _)).mono fun _ _ h => ⟨h.1.trans (by rw [fx_right0]), h.2⟩
  have C6 : Hid (∀ p : KW V, Calls Tryz.prog 14 #[.agg #[.int .i64 3, .int .i64 1, .int .i64 2, .int .i64 0, .bool false, .string ⟨#[]⟩, .int .i64 1, .int .i64 1, .string ⟨#[97]⟩, .string ⟨#[120]⟩, .int .i64 3, .slice none 0 0]] p.v fun r w' => r = .returned (.string ⟨#[100, 97, 116, 97, 32, 49, 32, 50, 32, 49, 58, 49, 32, 97, 32, 49, 32, 51]⟩) ∧ Kept p.v w') := fun p => show_d p.v
  have C7 : Hid (∀ p : KW V, Calls Tryz.prog 14 #[.agg #[.int .i64 5, .int .i64 3, .int .i64 0, .int .i64 0, .bool false, .string ⟨#[]⟩, .int .i64 0, .int .i64 0, .string ⟨#[]⟩, .string ⟨#[]⟩, .int .i64 0, .slice none 0 0]] p.v fun r w' => r = .returned (.string ⟨#[98, 101, 97, 116, 32, 51]⟩) ∧ Kept p.v w') := fun p => show_b p.v
  have C8 : Hid (∀ p : KW V, Calls Tryz.prog 18 #[.int .i64 6] p.v fun r w' => r = .returned (.string ⟨#[119, 97, 110, 116]⟩) ∧ Kept p.v w') := fun p => (name_any 6 p.v).mono fun _ _ h => ⟨h.1.trans (by rw [fx_name6]), h.2⟩
  have C9 : Hid (∀ p : KW V, Calls Tryz.prog 18 #[.int .i64 7] p.v fun r w' => r = .returned (.string ⟨#[]⟩) ∧ Kept p.v w') := fun p => (name_any 7 p.v).mono fun _ _ h => ⟨h.1.trans (by rw [fx_name7]), h.2⟩
  have C10 : Hid (∀ p : KW V, Calls Tryz.prog 16 #[.agg #[.int .i64 5, .int .i64 3, .int .i64 0, .int .i64 0, .bool false, .string ⟨#[]⟩, .int .i64 0, .int .i64 0, .string ⟨#[]⟩, .string ⟨#[]⟩, .int .i64 0, .slice none 0 0], .agg #[.int .i64 3, .int .i64 1, .int .i64 2, .int .i64 0, .bool false, .string ⟨#[]⟩, .int .i64 1, .int .i64 1, .string ⟨#[97]⟩, .string ⟨#[120]⟩, .int .i64 3, .slice none 0 0]] p.v fun r w' => r = .returned (.bool false) ∧ Kept p.v w') := fun p => (same_fr FB FD none none 0 0 p.v (MkS.nil _) (MkS.nil _)).mono fun _ _ h => ⟨h.1.trans (by rw [fx_diff]), h.2⟩
  refine C1.out.mono ?_
  rintro r w1 ⟨rfl, k1⟩
  obtain ⟨p1, rfl⟩ : ∃ p : KW V, w1 = p.v := ⟨⟨w1, k1⟩, rfl⟩
  clear k1 C1
  go_wp2_with fail
  refine (C2.out _).mono ?_
  rintro r w2 ⟨rfl, k2⟩
  obtain ⟨p2, rfl⟩ : ∃ p : KW V, w2 = p.v := ⟨⟨w2, p1.h.trans k2⟩, rfl⟩
  clear k2 C2
  go_wp2_with fail
  refine (C3.out _).mono ?_
  rintro r w3 ⟨rfl, k3⟩
  obtain ⟨p3, rfl⟩ : ∃ p : KW V, w3 = p.v := ⟨⟨w3, p2.h.trans k3⟩, rfl⟩
  clear k3 C3
  go_wp2_with fail
  refine (C4.out _).mono ?_
  rintro r w4 ⟨rfl, k4⟩
  obtain ⟨p4, rfl⟩ : ∃ p : KW V, w4 = p.v := ⟨⟨w4, p3.h.trans k4⟩, rfl⟩
  clear k4 C4
  go_wp2_with fail
  refine (C5.out _).mono ?_
  rintro r w5 ⟨rfl, k5⟩
  obtain ⟨p5, rfl⟩ : ∃ p : KW V, w5 = p.v := ⟨⟨w5, p4.h.trans k5⟩, rfl⟩
  clear k5 C5
  go_wp2_with fail
  refine (C6.out _).mono ?_
  rintro r w6 ⟨rfl, k6⟩
  obtain ⟨p6, rfl⟩ : ∃ p : KW V, w6 = p.v := ⟨⟨w6, p5.h.trans k6⟩, rfl⟩
  clear k6 C6
  go_wp2_with fail
  refine (C7.out _).mono ?_
  rintro r w7 ⟨rfl, k7⟩
  obtain ⟨p7, rfl⟩ : ∃ p : KW V, w7 = p.v := ⟨⟨w7, p6.h.trans k7⟩, rfl⟩
  clear k7 C7
  go_wp2_with fail
  refine (C8.out _).mono ?_
  rintro r w8 ⟨rfl, k8⟩
  obtain ⟨p8, rfl⟩ : ∃ p : KW V, w8 = p.v := ⟨⟨w8, p7.h.trans k8⟩, rfl⟩
  clear k8 C8
  go_wp2_with fail
  refine (C9.out _).mono ?_
  rintro r w9 ⟨rfl, k9⟩
  obtain ⟨p9, rfl⟩ : ∃ p : KW V, w9 = p.v := ⟨⟨w9, p8.h.trans k9⟩, rfl⟩
  clear k9 C9
  go_wp2_with fail
  refine (C10.out _).mono ?_
  rintro r w10 ⟨rfl, k10⟩
  obtain ⟨p10, rfl⟩ : ∃ p : KW V, w10 = p.v := ⟨⟨w10, p9.h.trans k10⟩, rfl⟩
  clear k10 C10
  go_wp2
  go_ret
  exact ⟨rfl, KV.out.trans p10.h⟩
end Go.Proofs.YtlfmpoinjbmjoaaGreatDoor
