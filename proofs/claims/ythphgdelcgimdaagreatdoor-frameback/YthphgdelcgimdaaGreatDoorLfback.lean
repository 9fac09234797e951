/-
  FrameBack: the walk.
-/
import Derived.Test.YthphgdelcgimdaaGreatDoorLfcuts
namespace Go.Proofs.YthphgdelcgimdaaGreatDoor
open Go.ChangeShapes Go.WideShapes Go.ChangeAt Go.RowKit

set_option maxHeartbeats 2000000 in
set_option maxRecDepth 100000 in
theorem fback_walk (f : Fr.F) (av : Option Addr) (cap : Nat) (s : ByteArray) (w : World) (h : FrIn w f av cap) (hs : s.size ≤ 9223372036854775807) (hT : Tab w) :
    Calls Tryz.prog 4 #[frv f av cap, .string s] w fun r w' => r = .returned (.bool true) ∧ Kept w w' := by
  have HI := Lib.hid h
  have HT := Lib.hid hT
  clear h hT
  have mb1 : 0 ≤ min (s.size : Int) 1000 := by omega
  have mb2 : min (s.size : Int) 1000 ≤ (s.size : Int) := by omega
  have sb : (s.extract 0 (min (s.size : Int) 1000).toNat).size ≤ 1000 := by rw [ByteArray.size_extract]; omega
  have b0 := Blk.made w (frc f av cap) 26
  have k0 : Kept w (w.alloc (.cells (frc f av cap) 26)) := (Kept.refl w).alloc _
  obtain ⟨W, hW⟩ : ∃ W, W = w.alloc (.cells (frc f av cap) 26) := ⟨_, rfl⟩
  rw [← hW] at b0 k0
  have CC := Lib.hid (cutf_any f av cap W ⟨HI.out.k, HI.out.ep, HI.out.sq, HI.out.cr, HI.out.fl, HI.out.o, HI.out.s, HI.out.t, HI.out.l, HI.out.d, HI.out.ms.kept k0⟩)
  have B0 := Lib.hid b0
  have K0 := Lib.hid k0
  unfold frv frc at CC
  unfold frv
  unfold frc at hW ⊢
  clear b0 k0
  go_enter Tryz.func4, Tryz.ntmps4
  go_wp2_with fail
  rw [← hW]
  refine CC.out.mono ?_
  rintro r w1 ⟨⟨av', cap', rfl, fs, hnew⟩, k1⟩
  have hsizeW : W.heap.size = w.heap.size + 1 := by rw [hW]; simp
  clear hW CC
  obtain ⟨R, hR⟩ : ∃ R, R = w.heap.size := ⟨_, rfl⟩
  rw [← hR] at B0 hsizeW ⊢
  have b1 := B0.out.kept k1
  have hlow : (cutF f).ms = [] ∨ ∀ x, av' = some x → x.block ≠ R := hnew.imp id fun h x hx => by have := h x hx; omega
  have hln : (cutF f).e.t.size ≤ 200 ∧ (cutF f).fl.size ≤ 200 := ⟨cutS_size _, cutS_size _⟩
  generalize cutF f = g at fs hnew hlow hln ⊢
  have c0 : w1.cell? ⟨R, 0, none⟩ = some (.int .i64 f.k) := cell_of b1 0 rfl
  have cf0 := b1.frozen 0
  have c1 : w1.cell? ⟨R, 1, none⟩ = some (.int .i64 f.ep) := cell_of b1 1 rfl
  have cf1 := b1.frozen 1
  have c2 : w1.cell? ⟨R, 2, none⟩ = some (.int .i64 f.sq) := cell_of b1 2 rfl
  have cf2 := b1.frozen 2
  have c3 : w1.cell? ⟨R, 3, none⟩ = some (.int .i64 f.cr) := cell_of b1 3 rfl
  have cf3 := b1.frozen 3
  have c4 : w1.cell? ⟨R, 4, none⟩ = some (.bool f.on) := cell_of b1 4 rfl
  have cf4 := b1.frozen 4
  have c5 : w1.cell? ⟨R, 5, none⟩ = some (.string f.fl) := cell_of b1 5 rfl
  have cf5 := b1.frozen 5
  have c6 : w1.cell? ⟨R, 6, none⟩ = some (.int .i64 f.e.o) := cell_of b1 6 rfl
  have cf6 := b1.frozen 6
  have c7 : w1.cell? ⟨R, 7, none⟩ = some (.int .i64 f.e.s) := cell_of b1 7 rfl
  have cf7 := b1.frozen 7
  have c8 : w1.cell? ⟨R, 8, none⟩ = some (.string f.e.t) := cell_of b1 8 rfl
  have cf8 := b1.frozen 8
  have c9 : w1.cell? ⟨R, 9, none⟩ = some (.string f.e.l) := cell_of b1 9 rfl
  have cf9 := b1.frozen 9
  have c10 : w1.cell? ⟨R, 10, none⟩ = some (.int .i64 f.e.d) := cell_of b1 10 rfl
  have cf10 := b1.frozen 10
  have c11 : w1.cell? ⟨R, 11, none⟩ = some (.slice av f.ms.length cap) := cell_of b1 11 rfl
  have cf11 := b1.frozen 11
  have B2 := Lib.hid (fr_sets2 b1 g av' cap')
  have F2 := Lib.hid (frs_sets (R := R) fs hlow (.int .i64 g.k) (.int .i64 g.ep) (.int .i64 g.sq) (.int .i64 g.cr) (.bool g.on) (.string g.fl) (.int .i64 g.e.o) (.int .i64 g.e.s) (.string g.e.t) (.string g.e.l) (.int .i64 g.e.d) (.slice av' g.ms.length cap'))
  have K2 := Lib.hid (fr_sets_kept (R := R) (K0.out.trans k1) (by omega) (.int .i64 g.k) (.int .i64 g.ep) (.int .i64 g.sq) (.int .i64 g.cr) (.bool g.on) (.string g.fl) (.int .i64 g.e.o) (.int .i64 g.e.s) (.string g.e.t) (.string g.e.l) (.int .i64 g.e.d) (.slice av' g.ms.length cap'))
  have hRlt := b1.lt
  clear fs hnew hlow k1 b1 hsizeW hR
  go_upto_region 2 with fail
  clear c0 cf0 c1 cf1 c2 cf2 c3 cf3 c4 cf4 c5 cf5 c6 cf6 c7 cf7 c8 cf8 c9 cf9 c10 cf10 c11 cf11 B0 K0
  generalize ((((((((((((w1.setCell ⟨R, 0, none⟩ (.int .i64 g.k)).setCell ⟨R, 1, none⟩ (.int .i64 g.ep)).setCell ⟨R, 2, none⟩ (.int .i64 g.sq)).setCell ⟨R, 3, none⟩ (.int .i64 g.cr)).setCell ⟨R, 4, none⟩ (.bool g.on)).setCell ⟨R, 5, none⟩ (.string g.fl)).setCell ⟨R, 6, none⟩ (.int .i64 g.e.o)).setCell ⟨R, 7, none⟩ (.int .i64 g.e.s)).setCell ⟨R, 8, none⟩ (.string g.e.t)).setCell ⟨R, 9, none⟩ (.string g.e.l)).setCell ⟨R, 10, none⟩ (.int .i64 g.e.d)).setCell ⟨R, 11, none⟩ (.slice av' g.ms.length cap')) = V at B2 F2 K2 ⊢
  have t0 := KW.cell (show V.cell? ⟨R, 0, none⟩ = some (.int .i64 g.k) from cell_of B2.out 0 rfl)
  have t1 := KW.cell (show V.cell? ⟨R, 1, none⟩ = some (.int .i64 g.ep) from cell_of B2.out 1 rfl)
  have t2 := KW.cell (show V.cell? ⟨R, 2, none⟩ = some (.int .i64 g.sq) from cell_of B2.out 2 rfl)
  have t3 := KW.cell (show V.cell? ⟨R, 3, none⟩ = some (.int .i64 g.cr) from cell_of B2.out 3 rfl)
  have t4 := KW.cell (show V.cell? ⟨R, 4, none⟩ = some (.bool g.on) from cell_of B2.out 4 rfl)
  have t5 := KW.cell (show V.cell? ⟨R, 5, none⟩ = some (.string g.fl) from cell_of B2.out 5 rfl)
  have t6 := KW.cell (show V.cell? ⟨R, 6, none⟩ = some (.int .i64 g.e.o) from cell_of B2.out 6 rfl)
  have t7 := KW.cell (show V.cell? ⟨R, 7, none⟩ = some (.int .i64 g.e.s) from cell_of B2.out 7 rfl)
  have t8 := KW.cell (show V.cell? ⟨R, 8, none⟩ = some (.string g.e.t) from cell_of B2.out 8 rfl)
  have t9 := KW.cell (show V.cell? ⟨R, 9, none⟩ = some (.string g.e.l) from cell_of B2.out 9 rfl)
  have t10 := KW.cell (show V.cell? ⟨R, 10, none⟩ = some (.int .i64 g.e.d) from cell_of B2.out 10 rfl)
  have t11 := KW.cell (show V.cell? ⟨R, 11, none⟩ = some (.slice av' g.ms.length cap') from cell_of B2.out 11 rfl)
  obtain ⟨S, hS, sS, lS⟩ := name_row (Fr.put g)
  have C1 : Hid (∀ p : KW V, Calls Tryz.prog 12 #[frv g av' cap'] p.v fun r w' => r = .returned (.string S) ∧ Kept p.v w') := fun p => by
    have h := frput_any g av' cap' p.v (F2.out.kept p.h) (HT.out.kept (K2.out.trans p.h))
    rw [hS] at h
    exact h
  have C2 : Hid (∀ p : KW V, Calls Tryz.prog 10 #[frv g av' cap'] p.v fun r w' => r = .returned (.bool (Fr.right g)) ∧ Kept p.v w') := fun p => frright_any g av' cap' p.v (F2.out.kept p.h)
  have CF : Hid (∀ p : KW V, Calls Tryz.prog 20 #[] p.v fun r w' => r = .returned (.bool true) ∧ Kept p.v w') := fun p => fix_any p.v (HT.out.kept (K2.out.trans p.h))
  unfold frv frc at C1 C2
  have hS700 := Fr.put_len g hln.1 hln.2
  rw [← sS] at hS700
  have LS := Lib.hid lS
  have SS := Lib.hid sS
  have HLN := Lib.hid hln
  clear lS sS hS hln B2
  obtain ⟨p0, hp0⟩ : ∃ p : KW V, p.v = V := ⟨⟨V, Kept.refl V⟩, rfl⟩
  have CS : Hid (∀ (p : KW V) (g' : Fr.F) (a' : Option Addr) (c' : Nat), MkS p.v a' c' g'.ms → Calls Tryz.prog 16 #[frv g av' cap', frv g' a' c'] p.v fun r w' => r = .returned (.bool (Fr.same g g')) ∧ Kept p.v w') := fun p g' a' c' hm => same_fr g g' av' a' cap' c' p.v (F2.out.ms.kept p.h) hm
  rw [← hp0]
  clear hp0 F2
  go_wp2_with fail
  generalize s.extract 0 (min (s.size : Int) 1000).toNat = E at sb ⊢
  refine (C1.out _).mono ?_
  rintro r w2 ⟨rfl, k2⟩
  obtain ⟨p1, rfl⟩ : ∃ p : KW V, w2 = p.v := ⟨⟨w2, p0.h.trans k2⟩, rfl⟩
  clear k2 C1
  cases hr : Fr.right g with
  | false =>
    have hput : Fr.put g = [] := by rw [Fr.put, hr]; rfl
    obtain rfl : S = ⟨#[]⟩ := by
      have h := LS.out
      rw [hput] at h
      cases S with
      | mk d => cases d with
        | mk l => simp at h; rw [h]
    have hg : Fr.get (⟨#[]⟩ : ByteArray).data.toList = (.zero, 3) := by decide
    have HG := Lib.hid hg
    rw [hr] at C2
    clear hr hg hput
    go_wp2_with fail
    refine (frget_any ⟨#[]⟩ _ (Nat.zero_le _) (HT.out.kept (K2.out.trans p1.h))).mono ?_
    rw [HG.out]
    rintro r w4 ⟨a4, c4, rfl, _, k4⟩
    rw [show frv Fr.F.zero a4 c4 = .agg #[.int .i64 0, .int .i64 0, .int .i64 0, .int .i64 0, .bool false, .string ⟨#[]⟩, .int .i64 0, .int .i64 0, .string ⟨#[]⟩, .string ⟨#[]⟩, .int .i64 0, .slice a4 0 c4] from rfl]
    have J4 : Kept V (w4.alloc (.cells #[.int .i64 0, .int .i64 0, .int .i64 0, .int .i64 0, .bool false, .string ⟨#[]⟩, .int .i64 0, .int .i64 0, .string ⟨#[]⟩, .string ⟨#[]⟩, .int .i64 0, .slice a4 0 c4] 26)) := (p1.h.trans k4).alloc _
    clear k4
    have ra0 : (w4.alloc (.cells #[.int .i64 0, .int .i64 0, .int .i64 0, .int .i64 0, .bool false, .string ⟨#[]⟩, .int .i64 0, .int .i64 0, .string ⟨#[]⟩, .string ⟨#[]⟩, .int .i64 0, .slice a4 0 c4] 26)).cell? ⟨R, 0, none⟩ = some (.int .i64 g.k) := t0 ⟨_, J4⟩
    have ra1 : (w4.alloc (.cells #[.int .i64 0, .int .i64 0, .int .i64 0, .int .i64 0, .bool false, .string ⟨#[]⟩, .int .i64 0, .int .i64 0, .string ⟨#[]⟩, .string ⟨#[]⟩, .int .i64 0, .slice a4 0 c4] 26)).cell? ⟨R, 1, none⟩ = some (.int .i64 g.ep) := t1 ⟨_, J4⟩
    have ra2 : (w4.alloc (.cells #[.int .i64 0, .int .i64 0, .int .i64 0, .int .i64 0, .bool false, .string ⟨#[]⟩, .int .i64 0, .int .i64 0, .string ⟨#[]⟩, .string ⟨#[]⟩, .int .i64 0, .slice a4 0 c4] 26)).cell? ⟨R, 2, none⟩ = some (.int .i64 g.sq) := t2 ⟨_, J4⟩
    have ra3 : (w4.alloc (.cells #[.int .i64 0, .int .i64 0, .int .i64 0, .int .i64 0, .bool false, .string ⟨#[]⟩, .int .i64 0, .int .i64 0, .string ⟨#[]⟩, .string ⟨#[]⟩, .int .i64 0, .slice a4 0 c4] 26)).cell? ⟨R, 3, none⟩ = some (.int .i64 g.cr) := t3 ⟨_, J4⟩
    have ra4 : (w4.alloc (.cells #[.int .i64 0, .int .i64 0, .int .i64 0, .int .i64 0, .bool false, .string ⟨#[]⟩, .int .i64 0, .int .i64 0, .string ⟨#[]⟩, .string ⟨#[]⟩, .int .i64 0, .slice a4 0 c4] 26)).cell? ⟨R, 4, none⟩ = some (.bool g.on) := t4 ⟨_, J4⟩
    have ra5 : (w4.alloc (.cells #[.int .i64 0, .int .i64 0, .int .i64 0, .int .i64 0, .bool false, .string ⟨#[]⟩, .int .i64 0, .int .i64 0, .string ⟨#[]⟩, .string ⟨#[]⟩, .int .i64 0, .slice a4 0 c4] 26)).cell? ⟨R, 5, none⟩ = some (.string g.fl) := t5 ⟨_, J4⟩
    have ra6 : (w4.alloc (.cells #[.int .i64 0, .int .i64 0, .int .i64 0, .int .i64 0, .bool false, .string ⟨#[]⟩, .int .i64 0, .int .i64 0, .string ⟨#[]⟩, .string ⟨#[]⟩, .int .i64 0, .slice a4 0 c4] 26)).cell? ⟨R, 6, none⟩ = some (.int .i64 g.e.o) := t6 ⟨_, J4⟩
    have ra7 : (w4.alloc (.cells #[.int .i64 0, .int .i64 0, .int .i64 0, .int .i64 0, .bool false, .string ⟨#[]⟩, .int .i64 0, .int .i64 0, .string ⟨#[]⟩, .string ⟨#[]⟩, .int .i64 0, .slice a4 0 c4] 26)).cell? ⟨R, 7, none⟩ = some (.int .i64 g.e.s) := t7 ⟨_, J4⟩
    have ra8 : (w4.alloc (.cells #[.int .i64 0, .int .i64 0, .int .i64 0, .int .i64 0, .bool false, .string ⟨#[]⟩, .int .i64 0, .int .i64 0, .string ⟨#[]⟩, .string ⟨#[]⟩, .int .i64 0, .slice a4 0 c4] 26)).cell? ⟨R, 8, none⟩ = some (.string g.e.t) := t8 ⟨_, J4⟩
    have ra9 : (w4.alloc (.cells #[.int .i64 0, .int .i64 0, .int .i64 0, .int .i64 0, .bool false, .string ⟨#[]⟩, .int .i64 0, .int .i64 0, .string ⟨#[]⟩, .string ⟨#[]⟩, .int .i64 0, .slice a4 0 c4] 26)).cell? ⟨R, 9, none⟩ = some (.string g.e.l) := t9 ⟨_, J4⟩
    have ra10 : (w4.alloc (.cells #[.int .i64 0, .int .i64 0, .int .i64 0, .int .i64 0, .bool false, .string ⟨#[]⟩, .int .i64 0, .int .i64 0, .string ⟨#[]⟩, .string ⟨#[]⟩, .int .i64 0, .slice a4 0 c4] 26)).cell? ⟨R, 10, none⟩ = some (.int .i64 g.e.d) := t10 ⟨_, J4⟩
    have ra11 : (w4.alloc (.cells #[.int .i64 0, .int .i64 0, .int .i64 0, .int .i64 0, .bool false, .string ⟨#[]⟩, .int .i64 0, .int .i64 0, .string ⟨#[]⟩, .string ⟨#[]⟩, .int .i64 0, .slice a4 0 c4] 26)).cell? ⟨R, 11, none⟩ = some (.slice av' g.ms.length cap') := t11 ⟨_, J4⟩
    have J4h := Lib.hid J4
    clear J4
    go_wp2_with fail
    refine (C2.out ⟨_, J4h.out⟩).mono ?_
    rintro r w5 ⟨rfl, k5⟩
    have J5 := Lib.hid (J4h.out.trans k5)
    clear k5 J4h ra0 ra1 ra2 ra3 ra4 ra5 ra6 ra7 ra8 ra9 ra10 ra11
    have ra0 : (w5).cell? ⟨R, 0, none⟩ = some (.int .i64 g.k) := t0 ⟨_, J5.out⟩
    have ra1 : (w5).cell? ⟨R, 1, none⟩ = some (.int .i64 g.ep) := t1 ⟨_, J5.out⟩
    have ra2 : (w5).cell? ⟨R, 2, none⟩ = some (.int .i64 g.sq) := t2 ⟨_, J5.out⟩
    have ra3 : (w5).cell? ⟨R, 3, none⟩ = some (.int .i64 g.cr) := t3 ⟨_, J5.out⟩
    have ra4 : (w5).cell? ⟨R, 4, none⟩ = some (.bool g.on) := t4 ⟨_, J5.out⟩
    have ra5 : (w5).cell? ⟨R, 5, none⟩ = some (.string g.fl) := t5 ⟨_, J5.out⟩
    have ra6 : (w5).cell? ⟨R, 6, none⟩ = some (.int .i64 g.e.o) := t6 ⟨_, J5.out⟩
    have ra7 : (w5).cell? ⟨R, 7, none⟩ = some (.int .i64 g.e.s) := t7 ⟨_, J5.out⟩
    have ra8 : (w5).cell? ⟨R, 8, none⟩ = some (.string g.e.t) := t8 ⟨_, J5.out⟩
    have ra9 : (w5).cell? ⟨R, 9, none⟩ = some (.string g.e.l) := t9 ⟨_, J5.out⟩
    have ra10 : (w5).cell? ⟨R, 10, none⟩ = some (.int .i64 g.e.d) := t10 ⟨_, J5.out⟩
    have ra11 : (w5).cell? ⟨R, 11, none⟩ = some (.slice av' g.ms.length cap') := t11 ⟨_, J5.out⟩
    go_wp2_with fail
    refine (C2.out ⟨_, J5.out⟩).mono ?_
    rintro r w5' ⟨rfl, k5⟩
    have J5' := Lib.hid (J5.out.trans k5)
    clear k5 J5 C2 ra0 ra1 ra2 ra3 ra4 ra5 ra6 ra7 ra8 ra9 ra10 ra11 t0 t1 t2 t3 t4 t5 t6 t7 t8 t9 t10 t11
    go_wp2_with fail
    refine (frget_any E _ (by omega) (HT.out.kept (K2.out.trans J5'.out))).mono ?_
    cases hge : (Fr.get E.data.toList).2 with
    | succ m =>
      have hz := Fr.get_bad E.data.toList (by rw [hge]; exact Nat.succ_ne_zero m)
      rintro r w6 ⟨a6, c6, rfl, _, k6⟩
      rw [hz, hge]
      rw [show frv Fr.F.zero a6 c6 = .agg #[.int .i64 0, .int .i64 0, .int .i64 0, .int .i64 0, .bool false, .string ⟨#[]⟩, .int .i64 0, .int .i64 0, .string ⟨#[]⟩, .string ⟨#[]⟩, .int .i64 0, .slice a6 0 c6] from rfl]
      have K6 := Lib.hid (((K2.out.trans J5'.out).trans k6).alloc (.cells #[.int .i64 0, .int .i64 0, .int .i64 0, .int .i64 0, .bool false, .string ⟨#[]⟩, .int .i64 0, .int .i64 0, .string ⟨#[]⟩, .string ⟨#[]⟩, .int .i64 0, .slice a6 0 c6] 26))
      have J6 := Lib.hid (((J5'.out).trans k6).alloc (.cells #[.int .i64 0, .int .i64 0, .int .i64 0, .int .i64 0, .bool false, .string ⟨#[]⟩, .int .i64 0, .int .i64 0, .string ⟨#[]⟩, .string ⟨#[]⟩, .int .i64 0, .slice a6 0 c6] 26))
      have hm : (((m + 1 : Nat) : Int) == 0) = false := by rw [beq_eq_false_iff_ne]; omega
      have hm2 : (((m + 1 : Nat) : Int) != 0) = true := by simp only [bne, hm]; rfl
      generalize (m + 1 : Nat) = m1 at hm hm2 ⊢
      clear k6 hz hge
      go_wp2_with fail
      refine (CF.out ⟨_, J6.out⟩).mono ?_
      rintro r w7 ⟨rfl, k7⟩
      have K7 := Lib.hid (K6.out.trans k7)
      clear k7
      go_wp2
      go_ret
      exact ⟨rfl, K7.out⟩
    | zero =>
      have hgot := Fr.get_got E.data.toList (Fr.get E.data.toList).1 (by rw [← hge])
      rintro r w6 ⟨a6, c6, rfl, f6, k6⟩
      rw [hge]
      generalize (Fr.get E.data.toList).1 = x at hgot f6 ⊢
      have K6 := Lib.hid (((K2.out.trans J5'.out).trans k6).alloc (.cells (frc x a6 c6) 26))
      have J6 := Lib.hid (((J5'.out).trans k6).alloc (.cells (frc x a6 c6) 26))
      have B6 := Lib.hid (Blk.made w6 (frc x a6 c6) 26)
      have F6 := Lib.hid (f6.kept ((Kept.refl w6).alloc (.cells (frc x a6 c6) 26)))
      have rb0 : (w6.alloc (.cells #[.int .i64 x.k, .int .i64 x.ep, .int .i64 x.sq, .int .i64 x.cr, .bool x.on, .string x.fl, .int .i64 x.e.o, .int .i64 x.e.s, .string x.e.t, .string x.e.l, .int .i64 x.e.d, .slice a6 x.ms.length c6] 26)).cell? ⟨w6.heap.size, 0, none⟩ = some (.int .i64 x.k) := cell_of B6.out 0 rfl
      have rb1 : (w6.alloc (.cells #[.int .i64 x.k, .int .i64 x.ep, .int .i64 x.sq, .int .i64 x.cr, .bool x.on, .string x.fl, .int .i64 x.e.o, .int .i64 x.e.s, .string x.e.t, .string x.e.l, .int .i64 x.e.d, .slice a6 x.ms.length c6] 26)).cell? ⟨w6.heap.size, 1, none⟩ = some (.int .i64 x.ep) := cell_of B6.out 1 rfl
      have rb2 : (w6.alloc (.cells #[.int .i64 x.k, .int .i64 x.ep, .int .i64 x.sq, .int .i64 x.cr, .bool x.on, .string x.fl, .int .i64 x.e.o, .int .i64 x.e.s, .string x.e.t, .string x.e.l, .int .i64 x.e.d, .slice a6 x.ms.length c6] 26)).cell? ⟨w6.heap.size, 2, none⟩ = some (.int .i64 x.sq) := cell_of B6.out 2 rfl
      have rb3 : (w6.alloc (.cells #[.int .i64 x.k, .int .i64 x.ep, .int .i64 x.sq, .int .i64 x.cr, .bool x.on, .string x.fl, .int .i64 x.e.o, .int .i64 x.e.s, .string x.e.t, .string x.e.l, .int .i64 x.e.d, .slice a6 x.ms.length c6] 26)).cell? ⟨w6.heap.size, 3, none⟩ = some (.int .i64 x.cr) := cell_of B6.out 3 rfl
      have rb4 : (w6.alloc (.cells #[.int .i64 x.k, .int .i64 x.ep, .int .i64 x.sq, .int .i64 x.cr, .bool x.on, .string x.fl, .int .i64 x.e.o, .int .i64 x.e.s, .string x.e.t, .string x.e.l, .int .i64 x.e.d, .slice a6 x.ms.length c6] 26)).cell? ⟨w6.heap.size, 4, none⟩ = some (.bool x.on) := cell_of B6.out 4 rfl
      have rb5 : (w6.alloc (.cells #[.int .i64 x.k, .int .i64 x.ep, .int .i64 x.sq, .int .i64 x.cr, .bool x.on, .string x.fl, .int .i64 x.e.o, .int .i64 x.e.s, .string x.e.t, .string x.e.l, .int .i64 x.e.d, .slice a6 x.ms.length c6] 26)).cell? ⟨w6.heap.size, 5, none⟩ = some (.string x.fl) := cell_of B6.out 5 rfl
      have rb6 : (w6.alloc (.cells #[.int .i64 x.k, .int .i64 x.ep, .int .i64 x.sq, .int .i64 x.cr, .bool x.on, .string x.fl, .int .i64 x.e.o, .int .i64 x.e.s, .string x.e.t, .string x.e.l, .int .i64 x.e.d, .slice a6 x.ms.length c6] 26)).cell? ⟨w6.heap.size, 6, none⟩ = some (.int .i64 x.e.o) := cell_of B6.out 6 rfl
      have rb7 : (w6.alloc (.cells #[.int .i64 x.k, .int .i64 x.ep, .int .i64 x.sq, .int .i64 x.cr, .bool x.on, .string x.fl, .int .i64 x.e.o, .int .i64 x.e.s, .string x.e.t, .string x.e.l, .int .i64 x.e.d, .slice a6 x.ms.length c6] 26)).cell? ⟨w6.heap.size, 7, none⟩ = some (.int .i64 x.e.s) := cell_of B6.out 7 rfl
      have rb8 : (w6.alloc (.cells #[.int .i64 x.k, .int .i64 x.ep, .int .i64 x.sq, .int .i64 x.cr, .bool x.on, .string x.fl, .int .i64 x.e.o, .int .i64 x.e.s, .string x.e.t, .string x.e.l, .int .i64 x.e.d, .slice a6 x.ms.length c6] 26)).cell? ⟨w6.heap.size, 8, none⟩ = some (.string x.e.t) := cell_of B6.out 8 rfl
      have rb9 : (w6.alloc (.cells #[.int .i64 x.k, .int .i64 x.ep, .int .i64 x.sq, .int .i64 x.cr, .bool x.on, .string x.fl, .int .i64 x.e.o, .int .i64 x.e.s, .string x.e.t, .string x.e.l, .int .i64 x.e.d, .slice a6 x.ms.length c6] 26)).cell? ⟨w6.heap.size, 9, none⟩ = some (.string x.e.l) := cell_of B6.out 9 rfl
      have rb10 : (w6.alloc (.cells #[.int .i64 x.k, .int .i64 x.ep, .int .i64 x.sq, .int .i64 x.cr, .bool x.on, .string x.fl, .int .i64 x.e.o, .int .i64 x.e.s, .string x.e.t, .string x.e.l, .int .i64 x.e.d, .slice a6 x.ms.length c6] 26)).cell? ⟨w6.heap.size, 10, none⟩ = some (.int .i64 x.e.d) := cell_of B6.out 10 rfl
      have rb11 : (w6.alloc (.cells #[.int .i64 x.k, .int .i64 x.ep, .int .i64 x.sq, .int .i64 x.cr, .bool x.on, .string x.fl, .int .i64 x.e.o, .int .i64 x.e.s, .string x.e.t, .string x.e.l, .int .i64 x.e.d, .slice a6 x.ms.length c6] 26)).cell? ⟨w6.heap.size, 11, none⟩ = some (.slice a6 x.ms.length c6) := cell_of B6.out 11 rfl
      obtain ⟨hx1, hx2⟩ := hgot
      have HX1 := Lib.hid hx1
      have HX2 := Lib.hid hx2
      clear k6 f6 hge hx1 hx2
      unfold frv frc
      go_wp2_with fail
      have cr := frright_any x a6 c6 _ F6.out
      rw [HX1.out] at cr
      unfold frv frc at cr
      refine cr.mono ?_
      rintro r w7 ⟨rfl, k7⟩
      have F7 := Lib.hid (F6.out.kept k7)
      have B7 := Lib.hid (B6.out.kept k7)
      have K7 := Lib.hid (K6.out.trans k7)
      have J7 := Lib.hid (J6.out.trans k7)
      clear k7 cr rb0 rb1 rb2 rb3 rb4 rb5 rb6 rb7 rb8 rb9 rb10 rb11
      have rb0 : w7.cell? ⟨w6.heap.size, 0, none⟩ = some (.int .i64 x.k) := cell_of B7.out 0 rfl
      have rb1 : w7.cell? ⟨w6.heap.size, 1, none⟩ = some (.int .i64 x.ep) := cell_of B7.out 1 rfl
      have rb2 : w7.cell? ⟨w6.heap.size, 2, none⟩ = some (.int .i64 x.sq) := cell_of B7.out 2 rfl
      have rb3 : w7.cell? ⟨w6.heap.size, 3, none⟩ = some (.int .i64 x.cr) := cell_of B7.out 3 rfl
      have rb4 : w7.cell? ⟨w6.heap.size, 4, none⟩ = some (.bool x.on) := cell_of B7.out 4 rfl
      have rb5 : w7.cell? ⟨w6.heap.size, 5, none⟩ = some (.string x.fl) := cell_of B7.out 5 rfl
      have rb6 : w7.cell? ⟨w6.heap.size, 6, none⟩ = some (.int .i64 x.e.o) := cell_of B7.out 6 rfl
      have rb7 : w7.cell? ⟨w6.heap.size, 7, none⟩ = some (.int .i64 x.e.s) := cell_of B7.out 7 rfl
      have rb8 : w7.cell? ⟨w6.heap.size, 8, none⟩ = some (.string x.e.t) := cell_of B7.out 8 rfl
      have rb9 : w7.cell? ⟨w6.heap.size, 9, none⟩ = some (.string x.e.l) := cell_of B7.out 9 rfl
      have rb10 : w7.cell? ⟨w6.heap.size, 10, none⟩ = some (.int .i64 x.e.d) := cell_of B7.out 10 rfl
      have rb11 : w7.cell? ⟨w6.heap.size, 11, none⟩ = some (.slice a6 x.ms.length c6) := cell_of B7.out 11 rfl
      go_wp2_with fail
      have cp := frput_any x a6 c6 _ F7.out (HT.out.kept K7.out)
      rw [HX2.out, show str E.data.toList = .string E from rfl] at cp
      unfold frv frc at cp
      refine cp.mono ?_
      rintro r w8 ⟨rfl, k8⟩
      have K8 := Lib.hid (K7.out.trans k8)
      have J8 := Lib.hid (J7.out.trans k8)
      clear k8 cp rb0 rb1 rb2 rb3 rb4 rb5 rb6 rb7 rb8 rb9 rb10 rb11
      go_wp2_with fail
      refine (CF.out ⟨_, J8.out⟩).mono ?_
      rintro r w9 ⟨rfl, k9⟩
      have K9 := Lib.hid (K8.out.trans k9)
      clear k9
      go_wp2
      go_ret
      exact ⟨rfl, K9.out⟩
  | true =>
    have hg : Fr.get S.data.toList = (g, 0) := by rw [LS.out]; exact Fr.get_put g hr (by have := HLN.out.1; omega) (by have := HLN.out.2; omega) (by rw [← SS.out]; omega)
    have HG := Lib.hid hg
    have hpos := Fr.put_pos g hr
    rw [← SS.out] at hpos
    rw [hr] at C2
    have hne : S.toList.isEmpty = false := by
      rw [toList_eq]
      cases hd : S.data.toList with
      | nil => have := size_len S; rw [hd] at this; simp at this; omega
      | cons a b => rfl
    clear hr hg
    go_wp2_with fail
    refine (frget_any S _ (by omega) (HT.out.kept (K2.out.trans p1.h))).mono ?_
    rw [HG.out]
    rintro r w4 ⟨a4, c4, rfl, f4, k4⟩
    have F4 := Lib.hid (f4.kept ((Kept.refl w4).alloc (.cells (frc g a4 c4) 26)))
    have B4 := Lib.hid (Blk.made w4 (frc g a4 c4) 26)
    have J4 : Hid (Kept V (w4.alloc (.cells (frc g a4 c4) 26))) := (p1.h.trans k4).alloc _
    clear k4 f4
    have ra0 : (w4.alloc (.cells #[.int .i64 g.k, .int .i64 g.ep, .int .i64 g.sq, .int .i64 g.cr, .bool g.on, .string g.fl, .int .i64 g.e.o, .int .i64 g.e.s, .string g.e.t, .string g.e.l, .int .i64 g.e.d, .slice a4 g.ms.length c4] 26)).cell? ⟨R, 0, none⟩ = some (.int .i64 g.k) := t0 ⟨_, J4.out⟩
    have ra1 : (w4.alloc (.cells #[.int .i64 g.k, .int .i64 g.ep, .int .i64 g.sq, .int .i64 g.cr, .bool g.on, .string g.fl, .int .i64 g.e.o, .int .i64 g.e.s, .string g.e.t, .string g.e.l, .int .i64 g.e.d, .slice a4 g.ms.length c4] 26)).cell? ⟨R, 1, none⟩ = some (.int .i64 g.ep) := t1 ⟨_, J4.out⟩
    have ra2 : (w4.alloc (.cells #[.int .i64 g.k, .int .i64 g.ep, .int .i64 g.sq, .int .i64 g.cr, .bool g.on, .string g.fl, .int .i64 g.e.o, .int .i64 g.e.s, .string g.e.t, .string g.e.l, .int .i64 g.e.d, .slice a4 g.ms.length c4] 26)).cell? ⟨R, 2, none⟩ = some (.int .i64 g.sq) := t2 ⟨_, J4.out⟩
    have ra3 : (w4.alloc (.cells #[.int .i64 g.k, .int .i64 g.ep, .int .i64 g.sq, .int .i64 g.cr, .bool g.on, .string g.fl, .int .i64 g.e.o, .int .i64 g.e.s, .string g.e.t, .string g.e.l, .int .i64 g.e.d, .slice a4 g.ms.length c4] 26)).cell? ⟨R, 3, none⟩ = some (.int .i64 g.cr) := t3 ⟨_, J4.out⟩
    have ra4 : (w4.alloc (.cells #[.int .i64 g.k, .int .i64 g.ep, .int .i64 g.sq, .int .i64 g.cr, .bool g.on, .string g.fl, .int .i64 g.e.o, .int .i64 g.e.s, .string g.e.t, .string g.e.l, .int .i64 g.e.d, .slice a4 g.ms.length c4] 26)).cell? ⟨R, 4, none⟩ = some (.bool g.on) := t4 ⟨_, J4.out⟩
    have ra5 : (w4.alloc (.cells #[.int .i64 g.k, .int .i64 g.ep, .int .i64 g.sq, .int .i64 g.cr, .bool g.on, .string g.fl, .int .i64 g.e.o, .int .i64 g.e.s, .string g.e.t, .string g.e.l, .int .i64 g.e.d, .slice a4 g.ms.length c4] 26)).cell? ⟨R, 5, none⟩ = some (.string g.fl) := t5 ⟨_, J4.out⟩
    have ra6 : (w4.alloc (.cells #[.int .i64 g.k, .int .i64 g.ep, .int .i64 g.sq, .int .i64 g.cr, .bool g.on, .string g.fl, .int .i64 g.e.o, .int .i64 g.e.s, .string g.e.t, .string g.e.l, .int .i64 g.e.d, .slice a4 g.ms.length c4] 26)).cell? ⟨R, 6, none⟩ = some (.int .i64 g.e.o) := t6 ⟨_, J4.out⟩
    have ra7 : (w4.alloc (.cells #[.int .i64 g.k, .int .i64 g.ep, .int .i64 g.sq, .int .i64 g.cr, .bool g.on, .string g.fl, .int .i64 g.e.o, .int .i64 g.e.s, .string g.e.t, .string g.e.l, .int .i64 g.e.d, .slice a4 g.ms.length c4] 26)).cell? ⟨R, 7, none⟩ = some (.int .i64 g.e.s) := t7 ⟨_, J4.out⟩
    have ra8 : (w4.alloc (.cells #[.int .i64 g.k, .int .i64 g.ep, .int .i64 g.sq, .int .i64 g.cr, .bool g.on, .string g.fl, .int .i64 g.e.o, .int .i64 g.e.s, .string g.e.t, .string g.e.l, .int .i64 g.e.d, .slice a4 g.ms.length c4] 26)).cell? ⟨R, 8, none⟩ = some (.string g.e.t) := t8 ⟨_, J4.out⟩
    have ra9 : (w4.alloc (.cells #[.int .i64 g.k, .int .i64 g.ep, .int .i64 g.sq, .int .i64 g.cr, .bool g.on, .string g.fl, .int .i64 g.e.o, .int .i64 g.e.s, .string g.e.t, .string g.e.l, .int .i64 g.e.d, .slice a4 g.ms.length c4] 26)).cell? ⟨R, 9, none⟩ = some (.string g.e.l) := t9 ⟨_, J4.out⟩
    have ra10 : (w4.alloc (.cells #[.int .i64 g.k, .int .i64 g.ep, .int .i64 g.sq, .int .i64 g.cr, .bool g.on, .string g.fl, .int .i64 g.e.o, .int .i64 g.e.s, .string g.e.t, .string g.e.l, .int .i64 g.e.d, .slice a4 g.ms.length c4] 26)).cell? ⟨R, 10, none⟩ = some (.int .i64 g.e.d) := t10 ⟨_, J4.out⟩
    have ra11 : (w4.alloc (.cells #[.int .i64 g.k, .int .i64 g.ep, .int .i64 g.sq, .int .i64 g.cr, .bool g.on, .string g.fl, .int .i64 g.e.o, .int .i64 g.e.s, .string g.e.t, .string g.e.l, .int .i64 g.e.d, .slice a4 g.ms.length c4] 26)).cell? ⟨R, 11, none⟩ = some (.slice av' g.ms.length cap') := t11 ⟨_, J4.out⟩
    unfold frv frc
    go_wp2_with fail
    refine (C2.out ⟨_, J4.out⟩).mono ?_
    rintro r w5 ⟨rfl, k5⟩
    have F5 := Lib.hid (F4.out.kept k5)
    have B5 := Lib.hid (B4.out.kept k5)
    have J5 := Lib.hid (J4.out.trans k5)
    clear k5 F4 B4 J4 ra0 ra1 ra2 ra3 ra4 ra5 ra6 ra7 ra8 ra9 ra10 ra11
    have ra0 : (w5).cell? ⟨R, 0, none⟩ = some (.int .i64 g.k) := t0 ⟨_, J5.out⟩
    have ra1 : (w5).cell? ⟨R, 1, none⟩ = some (.int .i64 g.ep) := t1 ⟨_, J5.out⟩
    have ra2 : (w5).cell? ⟨R, 2, none⟩ = some (.int .i64 g.sq) := t2 ⟨_, J5.out⟩
    have ra3 : (w5).cell? ⟨R, 3, none⟩ = some (.int .i64 g.cr) := t3 ⟨_, J5.out⟩
    have ra4 : (w5).cell? ⟨R, 4, none⟩ = some (.bool g.on) := t4 ⟨_, J5.out⟩
    have ra5 : (w5).cell? ⟨R, 5, none⟩ = some (.string g.fl) := t5 ⟨_, J5.out⟩
    have ra6 : (w5).cell? ⟨R, 6, none⟩ = some (.int .i64 g.e.o) := t6 ⟨_, J5.out⟩
    have ra7 : (w5).cell? ⟨R, 7, none⟩ = some (.int .i64 g.e.s) := t7 ⟨_, J5.out⟩
    have ra8 : (w5).cell? ⟨R, 8, none⟩ = some (.string g.e.t) := t8 ⟨_, J5.out⟩
    have ra9 : (w5).cell? ⟨R, 9, none⟩ = some (.string g.e.l) := t9 ⟨_, J5.out⟩
    have ra10 : (w5).cell? ⟨R, 10, none⟩ = some (.int .i64 g.e.d) := t10 ⟨_, J5.out⟩
    have ra11 : (w5).cell? ⟨R, 11, none⟩ = some (.slice av' g.ms.length cap') := t11 ⟨_, J5.out⟩
    have rb0 : w5.cell? ⟨w4.heap.size, 0, none⟩ = some (.int .i64 g.k) := cell_of B5.out 0 rfl
    have rb1 : w5.cell? ⟨w4.heap.size, 1, none⟩ = some (.int .i64 g.ep) := cell_of B5.out 1 rfl
    have rb2 : w5.cell? ⟨w4.heap.size, 2, none⟩ = some (.int .i64 g.sq) := cell_of B5.out 2 rfl
    have rb3 : w5.cell? ⟨w4.heap.size, 3, none⟩ = some (.int .i64 g.cr) := cell_of B5.out 3 rfl
    have rb4 : w5.cell? ⟨w4.heap.size, 4, none⟩ = some (.bool g.on) := cell_of B5.out 4 rfl
    have rb5 : w5.cell? ⟨w4.heap.size, 5, none⟩ = some (.string g.fl) := cell_of B5.out 5 rfl
    have rb6 : w5.cell? ⟨w4.heap.size, 6, none⟩ = some (.int .i64 g.e.o) := cell_of B5.out 6 rfl
    have rb7 : w5.cell? ⟨w4.heap.size, 7, none⟩ = some (.int .i64 g.e.s) := cell_of B5.out 7 rfl
    have rb8 : w5.cell? ⟨w4.heap.size, 8, none⟩ = some (.string g.e.t) := cell_of B5.out 8 rfl
    have rb9 : w5.cell? ⟨w4.heap.size, 9, none⟩ = some (.string g.e.l) := cell_of B5.out 9 rfl
    have rb10 : w5.cell? ⟨w4.heap.size, 10, none⟩ = some (.int .i64 g.e.d) := cell_of B5.out 10 rfl
    have rb11 : w5.cell? ⟨w4.heap.size, 11, none⟩ = some (.slice a4 g.ms.length c4) := cell_of B5.out 11 rfl
    have cs := CS.out ⟨_, J5.out⟩ g a4 c4 F5.out.ms
    rw [show Fr.same g g = true from by simp [Fr.same]] at cs
    unfold frv frc at cs
    have CS2 := Lib.hid cs
    clear cs CS
    go_wp2_with fail
    refine CS2.out.mono ?_
    rintro r w5' ⟨rfl, k5⟩
    have J5' := Lib.hid (J5.out.trans k5)
    clear k5 J5 F5 B5 CS2 ra0 ra1 ra2 ra3 ra4 ra5 ra6 ra7 ra8 ra9 ra10 ra11 rb0 rb1 rb2 rb3 rb4 rb5 rb6 rb7 rb8 rb9 rb10 rb11
    have ra0 : (w5').cell? ⟨R, 0, none⟩ = some (.int .i64 g.k) := t0 ⟨_, J5'.out⟩
    have ra1 : (w5').cell? ⟨R, 1, none⟩ = some (.int .i64 g.ep) := t1 ⟨_, J5'.out⟩
    have ra2 : (w5').cell? ⟨R, 2, none⟩ = some (.int .i64 g.sq) := t2 ⟨_, J5'.out⟩
    have ra3 : (w5').cell? ⟨R, 3, none⟩ = some (.int .i64 g.cr) := t3 ⟨_, J5'.out⟩
    have ra4 : (w5').cell? ⟨R, 4, none⟩ = some (.bool g.on) := t4 ⟨_, J5'.out⟩
    have ra5 : (w5').cell? ⟨R, 5, none⟩ = some (.string g.fl) := t5 ⟨_, J5'.out⟩
    have ra6 : (w5').cell? ⟨R, 6, none⟩ = some (.int .i64 g.e.o) := t6 ⟨_, J5'.out⟩
    have ra7 : (w5').cell? ⟨R, 7, none⟩ = some (.int .i64 g.e.s) := t7 ⟨_, J5'.out⟩
    have ra8 : (w5').cell? ⟨R, 8, none⟩ = some (.string g.e.t) := t8 ⟨_, J5'.out⟩
    have ra9 : (w5').cell? ⟨R, 9, none⟩ = some (.string g.e.l) := t9 ⟨_, J5'.out⟩
    have ra10 : (w5').cell? ⟨R, 10, none⟩ = some (.int .i64 g.e.d) := t10 ⟨_, J5'.out⟩
    have ra11 : (w5').cell? ⟨R, 11, none⟩ = some (.slice av' g.ms.length cap') := t11 ⟨_, J5'.out⟩
    go_wp2_with fail
    refine (C2.out ⟨_, J5'.out⟩).mono ?_
    rintro r w5'' ⟨rfl, k5⟩
    have J5'' := Lib.hid (J5'.out.trans k5)
    clear k5 J5' C2 ra0 ra1 ra2 ra3 ra4 ra5 ra6 ra7 ra8 ra9 ra10 ra11 t0 t1 t2 t3 t4 t5 t6 t7 t8 t9 t10 t11
    go_wp2_with fail
    refine (frget_any E _ (by omega) (HT.out.kept (K2.out.trans J5''.out))).mono ?_
    cases hge : (Fr.get E.data.toList).2 with
    | succ m =>
      have hz := Fr.get_bad E.data.toList (by rw [hge]; exact Nat.succ_ne_zero m)
      rintro r w6 ⟨a6, c6, rfl, _, k6⟩
      rw [hz, hge]
      rw [show frv Fr.F.zero a6 c6 = .agg #[.int .i64 0, .int .i64 0, .int .i64 0, .int .i64 0, .bool false, .string ⟨#[]⟩, .int .i64 0, .int .i64 0, .string ⟨#[]⟩, .string ⟨#[]⟩, .int .i64 0, .slice a6 0 c6] from rfl]
      have K6 := Lib.hid (((K2.out.trans J5''.out).trans k6).alloc (.cells #[.int .i64 0, .int .i64 0, .int .i64 0, .int .i64 0, .bool false, .string ⟨#[]⟩, .int .i64 0, .int .i64 0, .string ⟨#[]⟩, .string ⟨#[]⟩, .int .i64 0, .slice a6 0 c6] 26))
      have J6 := Lib.hid (((J5''.out).trans k6).alloc (.cells #[.int .i64 0, .int .i64 0, .int .i64 0, .int .i64 0, .bool false, .string ⟨#[]⟩, .int .i64 0, .int .i64 0, .string ⟨#[]⟩, .string ⟨#[]⟩, .int .i64 0, .slice a6 0 c6] 26))
      have hm : (((m + 1 : Nat) : Int) == 0) = false := by rw [beq_eq_false_iff_ne]; omega
      have hm2 : (((m + 1 : Nat) : Int) != 0) = true := by simp only [bne, hm]; rfl
      generalize (m + 1 : Nat) = m1 at hm hm2 ⊢
      clear k6 hz hge
      go_wp2_with fail
      refine (CF.out ⟨_, J6.out⟩).mono ?_
      rintro r w7 ⟨rfl, k7⟩
      have K7 := Lib.hid (K6.out.trans k7)
      clear k7
      go_wp2
      go_ret
      exact ⟨rfl, K7.out⟩
    | zero =>
      have hgot := Fr.get_got E.data.toList (Fr.get E.data.toList).1 (by rw [← hge])
      rintro r w6 ⟨a6, c6, rfl, f6, k6⟩
      rw [hge]
      generalize (Fr.get E.data.toList).1 = x at hgot f6 ⊢
      have K6 := Lib.hid (((K2.out.trans J5''.out).trans k6).alloc (.cells (frc x a6 c6) 26))
      have J6 := Lib.hid (((J5''.out).trans k6).alloc (.cells (frc x a6 c6) 26))
      have B6 := Lib.hid (Blk.made w6 (frc x a6 c6) 26)
      have F6 := Lib.hid (f6.kept ((Kept.refl w6).alloc (.cells (frc x a6 c6) 26)))
      have rb0 : (w6.alloc (.cells #[.int .i64 x.k, .int .i64 x.ep, .int .i64 x.sq, .int .i64 x.cr, .bool x.on, .string x.fl, .int .i64 x.e.o, .int .i64 x.e.s, .string x.e.t, .string x.e.l, .int .i64 x.e.d, .slice a6 x.ms.length c6] 26)).cell? ⟨w6.heap.size, 0, none⟩ = some (.int .i64 x.k) := cell_of B6.out 0 rfl
      have rb1 : (w6.alloc (.cells #[.int .i64 x.k, .int .i64 x.ep, .int .i64 x.sq, .int .i64 x.cr, .bool x.on, .string x.fl, .int .i64 x.e.o, .int .i64 x.e.s, .string x.e.t, .string x.e.l, .int .i64 x.e.d, .slice a6 x.ms.length c6] 26)).cell? ⟨w6.heap.size, 1, none⟩ = some (.int .i64 x.ep) := cell_of B6.out 1 rfl
      have rb2 : (w6.alloc (.cells #[.int .i64 x.k, .int .i64 x.ep, .int .i64 x.sq, .int .i64 x.cr, .bool x.on, .string x.fl, .int .i64 x.e.o, .int .i64 x.e.s, .string x.e.t, .string x.e.l, .int .i64 x.e.d, .slice a6 x.ms.length c6] 26)).cell? ⟨w6.heap.size, 2, none⟩ = some (.int .i64 x.sq) := cell_of B6.out 2 rfl
      have rb3 : (w6.alloc (.cells #[.int .i64 x.k, .int .i64 x.ep, .int .i64 x.sq, .int .i64 x.cr, .bool x.on, .string x.fl, .int .i64 x.e.o, .int .i64 x.e.s, .string x.e.t, .string x.e.l, .int .i64 x.e.d, .slice a6 x.ms.length c6] 26)).cell? ⟨w6.heap.size, 3, none⟩ = some (.int .i64 x.cr) := cell_of B6.out 3 rfl
      have rb4 : (w6.alloc (.cells #[.int .i64 x.k, .int .i64 x.ep, .int .i64 x.sq, .int .i64 x.cr, .bool x.on, .string x.fl, .int .i64 x.e.o, .int .i64 x.e.s, .string x.e.t, .string x.e.l, .int .i64 x.e.d, .slice a6 x.ms.length c6] 26)).cell? ⟨w6.heap.size, 4, none⟩ = some (.bool x.on) := cell_of B6.out 4 rfl
      have rb5 : (w6.alloc (.cells #[.int .i64 x.k, .int .i64 x.ep, .int .i64 x.sq, .int .i64 x.cr, .bool x.on, .string x.fl, .int .i64 x.e.o, .int .i64 x.e.s, .string x.e.t, .string x.e.l, .int .i64 x.e.d, .slice a6 x.ms.length c6] 26)).cell? ⟨w6.heap.size, 5, none⟩ = some (.string x.fl) := cell_of B6.out 5 rfl
      have rb6 : (w6.alloc (.cells #[.int .i64 x.k, .int .i64 x.ep, .int .i64 x.sq, .int .i64 x.cr, .bool x.on, .string x.fl, .int .i64 x.e.o, .int .i64 x.e.s, .string x.e.t, .string x.e.l, .int .i64 x.e.d, .slice a6 x.ms.length c6] 26)).cell? ⟨w6.heap.size, 6, none⟩ = some (.int .i64 x.e.o) := cell_of B6.out 6 rfl
      have rb7 : (w6.alloc (.cells #[.int .i64 x.k, .int .i64 x.ep, .int .i64 x.sq, .int .i64 x.cr, .bool x.on, .string x.fl, .int .i64 x.e.o, .int .i64 x.e.s, .string x.e.t, .string x.e.l, .int .i64 x.e.d, .slice a6 x.ms.length c6] 26)).cell? ⟨w6.heap.size, 7, none⟩ = some (.int .i64 x.e.s) := cell_of B6.out 7 rfl
      have rb8 : (w6.alloc (.cells #[.int .i64 x.k, .int .i64 x.ep, .int .i64 x.sq, .int .i64 x.cr, .bool x.on, .string x.fl, .int .i64 x.e.o, .int .i64 x.e.s, .string x.e.t, .string x.e.l, .int .i64 x.e.d, .slice a6 x.ms.length c6] 26)).cell? ⟨w6.heap.size, 8, none⟩ = some (.string x.e.t) := cell_of B6.out 8 rfl
      have rb9 : (w6.alloc (.cells #[.int .i64 x.k, .int .i64 x.ep, .int .i64 x.sq, .int .i64 x.cr, .bool x.on, .string x.fl, .int .i64 x.e.o, .int .i64 x.e.s, .string x.e.t, .string x.e.l, .int .i64 x.e.d, .slice a6 x.ms.length c6] 26)).cell? ⟨w6.heap.size, 9, none⟩ = some (.string x.e.l) := cell_of B6.out 9 rfl
      have rb10 : (w6.alloc (.cells #[.int .i64 x.k, .int .i64 x.ep, .int .i64 x.sq, .int .i64 x.cr, .bool x.on, .string x.fl, .int .i64 x.e.o, .int .i64 x.e.s, .string x.e.t, .string x.e.l, .int .i64 x.e.d, .slice a6 x.ms.length c6] 26)).cell? ⟨w6.heap.size, 10, none⟩ = some (.int .i64 x.e.d) := cell_of B6.out 10 rfl
      have rb11 : (w6.alloc (.cells #[.int .i64 x.k, .int .i64 x.ep, .int .i64 x.sq, .int .i64 x.cr, .bool x.on, .string x.fl, .int .i64 x.e.o, .int .i64 x.e.s, .string x.e.t, .string x.e.l, .int .i64 x.e.d, .slice a6 x.ms.length c6] 26)).cell? ⟨w6.heap.size, 11, none⟩ = some (.slice a6 x.ms.length c6) := cell_of B6.out 11 rfl
      obtain ⟨hx1, hx2⟩ := hgot
      have HX1 := Lib.hid hx1
      have HX2 := Lib.hid hx2
      clear k6 f6 hge hx1 hx2
      unfold frv frc
      go_wp2_with fail
      have cr := frright_any x a6 c6 _ F6.out
      rw [HX1.out] at cr
      unfold frv frc at cr
      refine cr.mono ?_
      rintro r w7 ⟨rfl, k7⟩
      have F7 := Lib.hid (F6.out.kept k7)
      have B7 := Lib.hid (B6.out.kept k7)
      have K7 := Lib.hid (K6.out.trans k7)
      have J7 := Lib.hid (J6.out.trans k7)
      clear k7 cr rb0 rb1 rb2 rb3 rb4 rb5 rb6 rb7 rb8 rb9 rb10 rb11
      have rb0 : w7.cell? ⟨w6.heap.size, 0, none⟩ = some (.int .i64 x.k) := cell_of B7.out 0 rfl
      have rb1 : w7.cell? ⟨w6.heap.size, 1, none⟩ = some (.int .i64 x.ep) := cell_of B7.out 1 rfl
      have rb2 : w7.cell? ⟨w6.heap.size, 2, none⟩ = some (.int .i64 x.sq) := cell_of B7.out 2 rfl
      have rb3 : w7.cell? ⟨w6.heap.size, 3, none⟩ = some (.int .i64 x.cr) := cell_of B7.out 3 rfl
      have rb4 : w7.cell? ⟨w6.heap.size, 4, none⟩ = some (.bool x.on) := cell_of B7.out 4 rfl
      have rb5 : w7.cell? ⟨w6.heap.size, 5, none⟩ = some (.string x.fl) := cell_of B7.out 5 rfl
      have rb6 : w7.cell? ⟨w6.heap.size, 6, none⟩ = some (.int .i64 x.e.o) := cell_of B7.out 6 rfl
      have rb7 : w7.cell? ⟨w6.heap.size, 7, none⟩ = some (.int .i64 x.e.s) := cell_of B7.out 7 rfl
      have rb8 : w7.cell? ⟨w6.heap.size, 8, none⟩ = some (.string x.e.t) := cell_of B7.out 8 rfl
      have rb9 : w7.cell? ⟨w6.heap.size, 9, none⟩ = some (.string x.e.l) := cell_of B7.out 9 rfl
      have rb10 : w7.cell? ⟨w6.heap.size, 10, none⟩ = some (.int .i64 x.e.d) := cell_of B7.out 10 rfl
      have rb11 : w7.cell? ⟨w6.heap.size, 11, none⟩ = some (.slice a6 x.ms.length c6) := cell_of B7.out 11 rfl
      go_wp2_with fail
      have cp := frput_any x a6 c6 _ F7.out (HT.out.kept K7.out)
      rw [HX2.out, show str E.data.toList = .string E from rfl] at cp
      unfold frv frc at cp
      refine cp.mono ?_
      rintro r w8 ⟨rfl, k8⟩
      have K8 := Lib.hid (K7.out.trans k8)
      have J8 := Lib.hid (J7.out.trans k8)
      clear k8 cp rb0 rb1 rb2 rb3 rb4 rb5 rb6 rb7 rb8 rb9 rb10 rb11
      go_wp2_with fail
      refine (CF.out ⟨_, J8.out⟩).mono ?_
      rintro r w9 ⟨rfl, k9⟩
      have K9 := Lib.hid (K8.out.trans k9)
      clear k9
      go_wp2
      go_ret
      exact ⟨rfl, K9.out⟩
end Go.Proofs.YthphgdelcgimdaaGreatDoor
