/-
  FrameKinds: the walk.
-/
import Derived.Test.YthphgdelcgimdaaGreatDoorLfcuts
import Derived.Test.YthphgdelcgimdaaGreatDoorFref
namespace Go.Proofs.YthphgdelcgimdaaGreatDoor
open Go.ChangeShapes Go.WideShapes Go.ChangeAt Go.RowKit

/-- a frame of another kind -/
def kin (g : Fr.F) (k : Int) : Fr.F := { g with k := k }
/-- the frame in memory, of whatever kind -/
structure KinAt (w0 w : World) (R : Nat) (g : Fr.F) (av : Option Addr) (cap : Nat) (k : Int) : Prop where
  b : Blk w R (frc (kin g k) av cap) 26
  s : FrS w (kin g k) av cap
  kept : Kept w0 w
theorem KinAt.still {w0 w w' : World} {R : Nat} {g : Fr.F} {av : Option Addr} {cap : Nat} {k : Int} (h : KinAt w0 w R g av cap k) (q : Kept w w') : KinAt w0 w' R g av cap k := ⟨h.b.kept q, h.s.kept q, h.kept.trans q⟩
theorem KinAt.turn {w0 w : World} {R : Nat} {g : Fr.F} {av : Option Addr} {cap : Nat} {k : Int} (h : KinAt w0 w R g av cap k) (hlow : g.ms = [] ∨ ∀ x, av = some x → x.block ≠ R) (hR : w0.heap.size ≤ R) (k' : Int) (hk : I64 k') : KinAt w0 (w.setCell ⟨R, 0, none⟩ (.int .i64 k')) R g av cap k' := by
  refine ⟨h.b.set 0 (.int .i64 k'), ⟨hk, h.s.ep, h.s.sq, h.s.cr, h.s.fl, h.s.et, h.s.e, mks_set h.s.ms hlow 0 _⟩, ?_⟩
  exact But.after h.kept (⟨rfl, rfl, rfl, by simp [World.setCell], fun j _ hn => Below.heap_setCell w ⟨R, 0, none⟩ _ j hn⟩ : But (fun j => j = R) w (w.setCell ⟨R, 0, none⟩ (.int .i64 k'))) fun i hi e => by omega

set_option maxHeartbeats 2000000 in
set_option maxRecDepth 100000 in
theorem fkinds_walk (f : Fr.F) (av : Option Addr) (cap : Nat) (w : World) (h : FrIn w f av cap) (hT : Tab w) :
    Calls Tryz.prog 8 #[frv f av cap] w fun r w' => r = .returned (.bool true) ∧ Kept w w' := by
  have HI := Lib.hid h
  have HT := Lib.hid hT
  clear h hT
  have b0 := Blk.made w (frc f av cap) 26
  have k0 : Kept w (w.alloc (.cells (frc f av cap) 26)) := (Kept.refl w).alloc _
  obtain ⟨W, hW⟩ : ∃ W, W = w.alloc (.cells (frc f av cap) 26) := ⟨_, rfl⟩
  rw [← hW] at b0 k0
  have CC := Lib.hid (cutf_any f av cap W ⟨HI.out.k, HI.out.ep, HI.out.sq, HI.out.cr, HI.out.fl, HI.out.o, HI.out.s, HI.out.t, HI.out.l, HI.out.d, HI.out.ms.kept k0⟩)
  have B0 := Lib.hid b0
  have K0 := Lib.hid k0
  unfold frv frc at CC
  unfold frv
  unfold frc at hW ⊢
  clear b0 k0
  go_enter Tryz.func8, Tryz.ntmps8
  go_wp2_with fail
  rw [← hW]
  refine CC.out.mono ?_
  rintro r w1 ⟨⟨av', cap', rfl, fs, hnew⟩, k1⟩
  have hsizeW : W.heap.size = w.heap.size + 1 := by rw [hW]; simp
  clear hW CC
  obtain ⟨R, hR⟩ : ∃ R, R = w.heap.size := ⟨_, rfl⟩
  rw [← hR] at B0 hsizeW ⊢
  have b1 := B0.out.kept k1
  have hlow : (cutF f).ms = [] ∨ ∀ x, av' = some x → x.block ≠ R := hnew.imp id fun h x hx => by have := h x hx; omega
  have hln : (cutF f).e.t.size ≤ 200 ∧ (cutF f).fl.size ≤ 200 := ⟨cutS_size _, cutS_size _⟩
  generalize cutF f = g at fs hnew hlow hln ⊢
  have c0 : w1.cell? ⟨R, 0, none⟩ = some (.int .i64 f.k) := cell_of b1 0 rfl
  have cf0 := b1.frozen 0
  have c1 : w1.cell? ⟨R, 1, none⟩ = some (.int .i64 f.ep) := cell_of b1 1 rfl
  have cf1 := b1.frozen 1
  have c2 : w1.cell? ⟨R, 2, none⟩ = some (.int .i64 f.sq) := cell_of b1 2 rfl
  have cf2 := b1.frozen 2
  have c3 : w1.cell? ⟨R, 3, none⟩ = some (.int .i64 f.cr) := cell_of b1 3 rfl
  have cf3 := b1.frozen 3
  have c4 : w1.cell? ⟨R, 4, none⟩ = some (.bool f.on) := cell_of b1 4 rfl
  have cf4 := b1.frozen 4
  have c5 : w1.cell? ⟨R, 5, none⟩ = some (.string f.fl) := cell_of b1 5 rfl
  have cf5 := b1.frozen 5
  have c6 : w1.cell? ⟨R, 6, none⟩ = some (.int .i64 f.e.o) := cell_of b1 6 rfl
  have cf6 := b1.frozen 6
  have c7 : w1.cell? ⟨R, 7, none⟩ = some (.int .i64 f.e.s) := cell_of b1 7 rfl
  have cf7 := b1.frozen 7
  have c8 : w1.cell? ⟨R, 8, none⟩ = some (.string f.e.t) := cell_of b1 8 rfl
  have cf8 := b1.frozen 8
  have c9 : w1.cell? ⟨R, 9, none⟩ = some (.string f.e.l) := cell_of b1 9 rfl
  have cf9 := b1.frozen 9
  have c10 : w1.cell? ⟨R, 10, none⟩ = some (.int .i64 f.e.d) := cell_of b1 10 rfl
  have cf10 := b1.frozen 10
  have c11 : w1.cell? ⟨R, 11, none⟩ = some (.slice av f.ms.length cap) := cell_of b1 11 rfl
  have cf11 := b1.frozen 11
  have B2 := Lib.hid (fr_sets2 b1 g av' cap')
  have F2 := Lib.hid (frs_sets (R := R) fs hlow (.int .i64 g.k) (.int .i64 g.ep) (.int .i64 g.sq) (.int .i64 g.cr) (.bool g.on) (.string g.fl) (.int .i64 g.e.o) (.int .i64 g.e.s) (.string g.e.t) (.string g.e.l) (.int .i64 g.e.d) (.slice av' g.ms.length cap'))
  have K2 := Lib.hid (fr_sets_kept (R := R) (K0.out.trans k1) (by omega) (.int .i64 g.k) (.int .i64 g.ep) (.int .i64 g.sq) (.int .i64 g.cr) (.bool g.on) (.string g.fl) (.int .i64 g.e.o) (.int .i64 g.e.s) (.string g.e.t) (.string g.e.l) (.int .i64 g.e.d) (.slice av' g.ms.length cap'))
  have hRlt := b1.lt
  have HLOW := Lib.hid hlow
  have HRW : w.heap.size ≤ R := by omega
  have HLN := Lib.hid hln
  clear fs hnew hlow hln k1 b1 hsizeW hR
  go_upto_region 2 with fail
  clear c0 cf0 c1 cf1 c2 cf2 c3 cf3 c4 cf4 c5 cf5 c6 cf6 c7 cf7 c8 cf8 c9 cf9 c10 cf10 c11 cf11 B0 K0
  generalize ((((((((((((w1.setCell ⟨R, 0, none⟩ (.int .i64 g.k)).setCell ⟨R, 1, none⟩ (.int .i64 g.ep)).setCell ⟨R, 2, none⟩ (.int .i64 g.sq)).setCell ⟨R, 3, none⟩ (.int .i64 g.cr)).setCell ⟨R, 4, none⟩ (.bool g.on)).setCell ⟨R, 5, none⟩ (.string g.fl)).setCell ⟨R, 6, none⟩ (.int .i64 g.e.o)).setCell ⟨R, 7, none⟩ (.int .i64 g.e.s)).setCell ⟨R, 8, none⟩ (.string g.e.t)).setCell ⟨R, 9, none⟩ (.string g.e.l)).setCell ⟨R, 10, none⟩ (.int .i64 g.e.d)).setCell ⟨R, 11, none⟩ (.slice av' g.ms.length cap')) = V at B2 F2 K2 ⊢
  have A0 : Hid (KinAt w V R g av' cap' g.k) := ⟨B2.out, F2.out, K2.out⟩
  clear B2 F2 K2
  go_wp2
  go_loopw [3] (fun i wr => ∃ kk k0 : Int, -1 ≤ kk ∧ kk ≤ 9 ∧ i = .int .i64 kk ∧ KinAt w wr R g av' cap' k0) (fun i _ => (9 - intOf i).toNat)
  case atStart => exact ⟨-1, g.k, by decide, by decide, rfl, A0.out⟩
  case round =>
    clear A0
    obtain ⟨kk, k0, hk1, hk9, rfl, hA⟩ := hrel
    have A := Lib.hid hA
    clear hA
    by_cases hlt : kk < 9
    · have a1 := A.out.turn HLOW.out HRW kk ⟨by omega, by omega⟩
      have x0 : wr.cell? ⟨R, 0, none⟩ = some (.int .i64 k0) := cell_of A.out.b 0 rfl
      have xf := A.out.b.frozen 0
      have A1 := Lib.hid a1
      have y0 : (wr.setCell ⟨R, 0, none⟩ (.int .i64 kk)).cell? ⟨R, 0, none⟩ = some (.int .i64 kk) := cell_of A1.out.b 0 rfl
      have y1 : (wr.setCell ⟨R, 0, none⟩ (.int .i64 kk)).cell? ⟨R, 1, none⟩ = some (.int .i64 g.ep) := cell_of A1.out.b 1 rfl
      have y2 : (wr.setCell ⟨R, 0, none⟩ (.int .i64 kk)).cell? ⟨R, 2, none⟩ = some (.int .i64 g.sq) := cell_of A1.out.b 2 rfl
      have y3 : (wr.setCell ⟨R, 0, none⟩ (.int .i64 kk)).cell? ⟨R, 3, none⟩ = some (.int .i64 g.cr) := cell_of A1.out.b 3 rfl
      have y4 : (wr.setCell ⟨R, 0, none⟩ (.int .i64 kk)).cell? ⟨R, 4, none⟩ = some (.bool g.on) := cell_of A1.out.b 4 rfl
      have y5 : (wr.setCell ⟨R, 0, none⟩ (.int .i64 kk)).cell? ⟨R, 5, none⟩ = some (.string g.fl) := cell_of A1.out.b 5 rfl
      have y6 : (wr.setCell ⟨R, 0, none⟩ (.int .i64 kk)).cell? ⟨R, 6, none⟩ = some (.int .i64 g.e.o) := cell_of A1.out.b 6 rfl
      have y7 : (wr.setCell ⟨R, 0, none⟩ (.int .i64 kk)).cell? ⟨R, 7, none⟩ = some (.int .i64 g.e.s) := cell_of A1.out.b 7 rfl
      have y8 : (wr.setCell ⟨R, 0, none⟩ (.int .i64 kk)).cell? ⟨R, 8, none⟩ = some (.string g.e.t) := cell_of A1.out.b 8 rfl
      have y9 : (wr.setCell ⟨R, 0, none⟩ (.int .i64 kk)).cell? ⟨R, 9, none⟩ = some (.string g.e.l) := cell_of A1.out.b 9 rfl
      have y10 : (wr.setCell ⟨R, 0, none⟩ (.int .i64 kk)).cell? ⟨R, 10, none⟩ = some (.int .i64 g.e.d) := cell_of A1.out.b 10 rfl
      have y11 : (wr.setCell ⟨R, 0, none⟩ (.int .i64 kk)).cell? ⟨R, 11, none⟩ = some (.slice av' g.ms.length cap') := cell_of A1.out.b 11 rfl
      clear a1
      go_wp2_with fail
      generalize hW1 : wr.setCell ⟨R, 0, none⟩ (.int .i64 kk) = W1 at A1 ⊢
      clear hW1 x0 xf y0 y1 y2 y3 y4 y5 y6 y7 y8 y9 y10 y11 A
      have t0 := KW.cell (show W1.cell? ⟨R, 0, none⟩ = some (.int .i64 kk) from cell_of A1.out.b 0 rfl)
      have t1 := KW.cell (show W1.cell? ⟨R, 1, none⟩ = some (.int .i64 g.ep) from cell_of A1.out.b 1 rfl)
      have t2 := KW.cell (show W1.cell? ⟨R, 2, none⟩ = some (.int .i64 g.sq) from cell_of A1.out.b 2 rfl)
      have t3 := KW.cell (show W1.cell? ⟨R, 3, none⟩ = some (.int .i64 g.cr) from cell_of A1.out.b 3 rfl)
      have t4 := KW.cell (show W1.cell? ⟨R, 4, none⟩ = some (.bool g.on) from cell_of A1.out.b 4 rfl)
      have t5 := KW.cell (show W1.cell? ⟨R, 5, none⟩ = some (.string g.fl) from cell_of A1.out.b 5 rfl)
      have t6 := KW.cell (show W1.cell? ⟨R, 6, none⟩ = some (.int .i64 g.e.o) from cell_of A1.out.b 6 rfl)
      have t7 := KW.cell (show W1.cell? ⟨R, 7, none⟩ = some (.int .i64 g.e.s) from cell_of A1.out.b 7 rfl)
      have t8 := KW.cell (show W1.cell? ⟨R, 8, none⟩ = some (.string g.e.t) from cell_of A1.out.b 8 rfl)
      have t9 := KW.cell (show W1.cell? ⟨R, 9, none⟩ = some (.string g.e.l) from cell_of A1.out.b 9 rfl)
      have t10 := KW.cell (show W1.cell? ⟨R, 10, none⟩ = some (.int .i64 g.e.d) from cell_of A1.out.b 10 rfl)
      have t11 := KW.cell (show W1.cell? ⟨R, 11, none⟩ = some (.slice av' g.ms.length cap') from cell_of A1.out.b 11 rfl)
      obtain ⟨S, hS, sS, lS⟩ := name_row (Fr.put (kin g kk))
      have cp := frput_any (kin g kk) av' cap' W1 A1.out.s (HT.out.kept A1.out.kept)
      rw [hS] at cp
      unfold frv frc at cp
      have CR : Hid (∀ p : KW W1, Calls Tryz.prog 11 #[frv (kin g kk) av' cap'] p.v fun r w' => r = .returned (.bool (Fr.right (kin g kk))) ∧ Kept p.v w') := fun p => rright7_any (kin g kk) av' cap' p.v (A1.out.s.kept p.h)
      unfold frv frc at CR
      have hS720 := Fr.put_len (kin g kk) HLN.out.1 HLN.out.2
      rw [← sS] at hS720
      have LS := Lib.hid lS
      have SS := Lib.hid sS
      clear lS sS hS
      refine cp.mono ?_
      clear cp
      rintro r w2 ⟨rfl, k2⟩
      obtain ⟨p2, rfl⟩ : ∃ p : KW W1, w2 = p.v := ⟨⟨w2, k2⟩, rfl⟩
      clear k2
      cases hr : Fr.right (kin g kk) with
      | false =>
        have hput : Fr.put (kin g kk) = [] := by rw [Fr.put, hr]; rfl
        obtain rfl : S = ⟨#[]⟩ := by
          have h := LS.out
          rw [hput] at h
          cases S with
          | mk d => cases d with
            | mk l => simp at h; rw [h]
        rw [hr] at CR
        clear hr hput
        go_wp2_with fail
        refine (CR.out _).mono ?_
        rintro r w3 ⟨rfl, k3⟩
        have A3 := Lib.hid (A1.out.still (p2.h.trans k3))
        clear k3
        go_wp2
        go_roundw
        case rel => exact ⟨kk + 1, kk, by omega, by omega, by go_num, A3.out⟩
        case measure => simp [intOf]; omega
      | true =>
        have hg : Fr.get S.data.toList = (kin g kk, 0) := by rw [LS.out]; exact Fr.get_put (kin g kk) hr (by have := HLN.out.1; show g.e.t.size ≤ 65536; omega) (by have := HLN.out.2; show g.fl.size ≤ 65536; omega) (by rw [← SS.out]; omega)
        have HG := Lib.hid hg
        have hpos := Fr.put_pos (kin g kk) hr
        rw [← SS.out] at hpos
        have hne : S.toList.isEmpty = false := by
          rw [toList_eq]
          cases hd : S.data.toList with
          | nil => have := size_len S; rw [hd] at this; simp at this; omega
          | cons a b => rfl
        have hne2 : (S.toList == []) = false := by
          rw [beq_eq_false_iff_ne]; intro h; rw [h] at hne; simp at hne
        rw [hr] at CR
        clear hr hg
        go_wp2_with fail
        refine (CR.out _).mono ?_
        rintro r w3 ⟨rfl, k3⟩
        obtain ⟨p3, rfl⟩ : ∃ p : KW W1, w3 = p.v := ⟨⟨w3, p2.h.trans k3⟩, rfl⟩
        clear k3 CR
        go_wp2_with fail
        refine (frget_any S _ (by omega) (HT.out.kept (A1.out.kept.trans p3.h))).mono ?_
        rw [HG.out]
        rintro r w4 ⟨a4, c4, rfl, f4, k4⟩
        have J4 : Hid (Kept W1 (w4.alloc (.cells (frc (kin g kk) a4 c4) 26))) := (p3.h.trans k4).alloc _
        have B4 := Lib.hid (Blk.made w4 (frc (kin g kk) a4 c4) 26)
        clear k4 f4
        have u0 : (w4.alloc (.cells #[.int .i64 kk, .int .i64 g.ep, .int .i64 g.sq, .int .i64 g.cr, .bool g.on, .string g.fl, .int .i64 g.e.o, .int .i64 g.e.s, .string g.e.t, .string g.e.l, .int .i64 g.e.d, .slice a4 g.ms.length c4] 26)).cell? ⟨w4.heap.size, 0, none⟩ = some (.int .i64 kk) := cell_of B4.out 0 rfl
        have u1 : (w4.alloc (.cells #[.int .i64 kk, .int .i64 g.ep, .int .i64 g.sq, .int .i64 g.cr, .bool g.on, .string g.fl, .int .i64 g.e.o, .int .i64 g.e.s, .string g.e.t, .string g.e.l, .int .i64 g.e.d, .slice a4 g.ms.length c4] 26)).cell? ⟨w4.heap.size, 1, none⟩ = some (.int .i64 g.ep) := cell_of B4.out 1 rfl
        have v1 : (w4.alloc (.cells #[.int .i64 kk, .int .i64 g.ep, .int .i64 g.sq, .int .i64 g.cr, .bool g.on, .string g.fl, .int .i64 g.e.o, .int .i64 g.e.s, .string g.e.t, .string g.e.l, .int .i64 g.e.d, .slice a4 g.ms.length c4] 26)).cell? ⟨R, 1, none⟩ = some (.int .i64 g.ep) := t1 ⟨_, J4.out⟩
        unfold frv frc kin
        go_wp2
        go_roundw
        case rel => exact ⟨kk + 1, kk, by omega, by omega, by go_num, A1.out.still J4.out⟩
        case measure => simp [intOf]; omega
    · have hk : kk = 9 := by omega
      subst hk
      go_wp2_with fail
      refine (refseal_any ⟨#[]⟩ _ (by decide)).mono ?_
      rintro r w2 ⟨rfl, k2⟩
      obtain ⟨S, hS, sS, lS⟩ := name_row (Ck.seal_ (⟨#[]⟩ : ByteArray).data.toList)
      rw [hS]
      have hg : Fr.get S.data.toList = (.zero, 3) := by rw [lS]; decide +kernel
      have hs5 : S.size ≤ 100 := by rw [sS]; decide +kernel
      have A2 := Lib.hid (A.out.still k2)
      have HG := Lib.hid hg
      clear hS sS lS hg k2 A
      go_wp2_with fail
      refine (frget_any S _ (by omega) (HT.out.kept A2.out.kept)).mono ?_
      rw [HG.out]
      rintro r w3 ⟨a3, c3, rfl, _, k3⟩
      rw [show frv Fr.F.zero a3 c3 = .agg #[.int .i64 0, .int .i64 0, .int .i64 0, .int .i64 0, .bool false, .string ⟨#[]⟩, .int .i64 0, .int .i64 0, .string ⟨#[]⟩, .string ⟨#[]⟩, .int .i64 0, .slice a3 0 c3] from rfl]
      have K3 : Hid (Kept w (w3.alloc (.cells #[.int .i64 0, .int .i64 0, .int .i64 0, .int .i64 0, .bool false, .string ⟨#[]⟩, .int .i64 0, .int .i64 0, .string ⟨#[]⟩, .string ⟨#[]⟩, .int .i64 0, .slice a3 0 c3] 26))) := (A2.out.kept.trans k3).alloc _
      clear k3
      go_wp2_with fail
      refine (fix_any _ (HT.out.kept K3.out)).mono ?_
      rintro r w4 ⟨rfl, k4⟩
      have K4 := Lib.hid (K3.out.trans k4)
      clear k4
      go_wp2
      go_ret
      exact ⟨rfl, K4.out⟩
end Go.Proofs.YthphgdelcgimdaaGreatDoor
