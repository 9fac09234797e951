/-
  FrameCuts: the walk.
-/
import Derived.Test.YtlfmpoinjbmjoaaGreatDoorFfix
import Derived.Test.YtlfmpoinjbmjoaaGreatDoorFlaw
import Derived.Test.YtlfmpoinjbmjoaaGreatDoorVbits
import Derived.Deep.DeepCutAuto
namespace Go.Proofs.YtlfmpoinjbmjoaaGreatDoor
open Go.ChangeShapes Go.WideShapes Go.ChangeAt Go.RowKit

theorem fr_sets2 {w : World} {R : Nat} {f : Fr.F} {av : Option Addr} {cap : Nat} (hb : Blk w R (frc f av cap) 26) (g : Fr.F) (av' : Option Addr) (cap' : Nat) : Blk ((((((((((((w.setCell ⟨R, 0, none⟩ (.int .i64 g.k)).setCell ⟨R, 1, none⟩ (.int .i64 g.ep)).setCell ⟨R, 2, none⟩ (.int .i64 g.sq)).setCell ⟨R, 3, none⟩ (.int .i64 g.cr)).setCell ⟨R, 4, none⟩ (.bool g.on)).setCell ⟨R, 5, none⟩ (.string g.fl)).setCell ⟨R, 6, none⟩ (.int .i64 g.e.o)).setCell ⟨R, 7, none⟩ (.int .i64 g.e.s)).setCell ⟨R, 8, none⟩ (.string g.e.t)).setCell ⟨R, 9, none⟩ (.string g.e.l)).setCell ⟨R, 10, none⟩ (.int .i64 g.e.d)).setCell ⟨R, 11, none⟩ (.slice av' g.ms.length cap')) R (frc g av' cap') 26 := by
  have h0 : Blk (w.setCell ⟨R, 0, none⟩ (.int .i64 g.k)) R #[.int .i64 g.k, .int .i64 f.ep, .int .i64 f.sq, .int .i64 f.cr, .bool f.on, .string f.fl, .int .i64 f.e.o, .int .i64 f.e.s, .string f.e.t, .string f.e.l, .int .i64 f.e.d, .slice av f.ms.length cap] 26 := hb.set 0 (.int .i64 g.k)
  have h1 : Blk ((w.setCell ⟨R, 0, none⟩ (.int .i64 g.k)).setCell ⟨R, 1, none⟩ (.int .i64 g.ep)) R #[.int .i64 g.k, .int .i64 g.ep, .int .i64 f.sq, .int .i64 f.cr, .bool f.on, .string f.fl, .int .i64 f.e.o, .int .i64 f.e.s, .string f.e.t, .string f.e.l, .int .i64 f.e.d, .slice av f.ms.length cap] 26 := h0.set 1 (.int .i64 g.ep)
  have h2 : Blk (((w.setCell ⟨R, 0, none⟩ (.int .i64 g.k)).setCell ⟨R, 1, none⟩ (.int .i64 g.ep)).setCell ⟨R, 2, none⟩ (.int .i64 g.sq)) R #[.int .i64 g.k, .int .i64 g.ep, .int .i64 g.sq, .int .i64 f.cr, .bool f.on, .string f.fl, .int .i64 f.e.o, .int .i64 f.e.s, .string f.e.t, .string f.e.l, .int .i64 f.e.d, .slice av f.ms.length cap] 26 := h1.set 2 (.int .i64 g.sq)
  have h3 : Blk ((((w.setCell ⟨R, 0, none⟩ (.int .i64 g.k)).setCell ⟨R, 1, none⟩ (.int .i64 g.ep)).setCell ⟨R, 2, none⟩ (.int .i64 g.sq)).setCell ⟨R, 3, none⟩ (.int .i64 g.cr)) R #[.int .i64 g.k, .int .i64 g.ep, .int .i64 g.sq, .int .i64 g.cr, .bool f.on, .string f.fl, .int .i64 f.e.o, .int .i64 f.e.s, .string f.e.t, .string f.e.l, .int .i64 f.e.d, .slice av f.ms.length cap] 26 := h2.set 3 (.int .i64 g.cr)
  have h4 : Blk (((((w.setCell ⟨R, 0, none⟩ (.int .i64 g.k)).setCell ⟨R, 1, none⟩ (.int .i64 g.ep)).setCell ⟨R, 2, none⟩ (.int .i64 g.sq)).setCell ⟨R, 3, none⟩ (.int .i64 g.cr)).setCell ⟨R, 4, none⟩ (.bool g.on)) R #[.int .i64 g.k, .int .i64 g.ep, .int .i64 g.sq, .int .i64 g.cr, .bool g.on, .string f.fl, .int .i64 f.e.o, .int .i64 f.e.s, .string f.e.t, .string f.e.l, .int .i64 f.e.d, .slice av f.ms.length cap] 26 := h3.set 4 (.bool g.on)
  have h5 : Blk ((((((w.setCell ⟨R, 0, none⟩ (.int .i64 g.k)).setCell ⟨R, 1, none⟩ (.int .i64 g.ep)).setCell ⟨R, 2, none⟩ (.int .i64 g.sq)).setCell ⟨R, 3, none⟩ (.int .i64 g.cr)).setCell ⟨R, 4, none⟩ (.bool g.on)).setCell ⟨R, 5, none⟩ (.string g.fl)) R #[.int .i64 g.k, .int .i64 g.ep, .int .i64 g.sq, .int .i64 g.cr, .bool g.on, .string g.fl, .int .i64 f.e.o, .int .i64 f.e.s, .string f.e.t, .string f.e.l, .int .i64 f.e.d, .slice av f.ms.length cap] 26 := h4.set 5 (.string g.fl)
  have h6 : Blk (((((((w.setCell ⟨R, 0, none⟩ (.int .i64 g.k)).setCell ⟨R, 1, none⟩ (.int .i64 g.ep)).setCell ⟨R, 2, none⟩ (.int .i64 g.sq)).setCell ⟨R, 3, none⟩ (.int .i64 g.cr)).setCell ⟨R, 4, none⟩ (.bool g.on)).setCell ⟨R, 5, none⟩ (.string g.fl)).setCell ⟨R, 6, none⟩ (.int .i64 g.e.o)) R #[.int .i64 g.k, .int .i64 g.ep, .int .i64 g.sq, .int .i64 g.cr, .bool g.on, .string g.fl, .int .i64 g.e.o, .int .i64 f.e.s, .string f.e.t, .string f.e.l, .int .i64 f.e.d, .slice av f.ms.length cap] 26 := h5.set 6 (.int .i64 g.e.o)
  have h7 : Blk ((((((((w.setCell ⟨R, 0, none⟩ (.int .i64 g.k)).setCell ⟨R, 1, none⟩ (.int .i64 g.ep)).setCell ⟨R, 2, none⟩ (.int .i64 g.sq)).setCell ⟨R, 3, none⟩ (.int .i64 g.cr)).setCell ⟨R, 4, none⟩ (.bool g.on)).setCell ⟨R, 5, none⟩ (.string g.fl)).setCell ⟨R, 6, none⟩ (.int .i64 g.e.o)).setCell ⟨R, 7, none⟩ (.int .i64 g.e.s)) R #[.int .i64 g.k, .int .i64 g.ep, .int .i64 g.sq, .int .i64 g.cr, .bool g.on, .string g.fl, .int .i64 g.e.o, .int .i64 g.e.s, .string f.e.t, .string f.e.l, .int .i64 f.e.d, .slice av f.ms.length cap] 26 := h6.set 7 (.int .i64 g.e.s)
  have h8 : Blk (((((((((w.setCell ⟨R, 0, none⟩ (.int .i64 g.k)).setCell ⟨R, 1, none⟩ (.int .i64 g.ep)).setCell ⟨R, 2, none⟩ (.int .i64 g.sq)).setCell ⟨R, 3, none⟩ (.int .i64 g.cr)).setCell ⟨R, 4, none⟩ (.bool g.on)).setCell ⟨R, 5, none⟩ (.string g.fl)).setCell ⟨R, 6, none⟩ (.int .i64 g.e.o)).setCell ⟨R, 7, none⟩ (.int .i64 g.e.s)).setCell ⟨R, 8, none⟩ (.string g.e.t)) R #[.int .i64 g.k, .int .i64 g.ep, .int .i64 g.sq, .int .i64 g.cr, .bool g.on, .string g.fl, .int .i64 g.e.o, .int .i64 g.e.s, .string g.e.t, .string f.e.l, .int .i64 f.e.d, .slice av f.ms.length cap] 26 := h7.set 8 (.string g.e.t)
  have h9 : Blk ((((((((((w.setCell ⟨R, 0, none⟩ (.int .i64 g.k)).setCell ⟨R, 1, none⟩ (.int .i64 g.ep)).setCell ⟨R, 2, none⟩ (.int .i64 g.sq)).setCell ⟨R, 3, none⟩ (.int .i64 g.cr)).setCell ⟨R, 4, none⟩ (.bool g.on)).setCell ⟨R, 5, none⟩ (.string g.fl)).setCell ⟨R, 6, none⟩ (.int .i64 g.e.o)).setCell ⟨R, 7, none⟩ (.int .i64 g.e.s)).setCell ⟨R, 8, none⟩ (.string g.e.t)).setCell ⟨R, 9, none⟩ (.string g.e.l)) R #[.int .i64 g.k, .int .i64 g.ep, .int .i64 g.sq, .int .i64 g.cr, .bool g.on, .string g.fl, .int .i64 g.e.o, .int .i64 g.e.s, .string g.e.t, .string g.e.l, .int .i64 f.e.d, .slice av f.ms.length cap] 26 := h8.set 9 (.string g.e.l)
  have h10 : Blk (((((((((((w.setCell ⟨R, 0, none⟩ (.int .i64 g.k)).setCell ⟨R, 1, none⟩ (.int .i64 g.ep)).setCell ⟨R, 2, none⟩ (.int .i64 g.sq)).setCell ⟨R, 3, none⟩ (.int .i64 g.cr)).setCell ⟨R, 4, none⟩ (.bool g.on)).setCell ⟨R, 5, none⟩ (.string g.fl)).setCell ⟨R, 6, none⟩ (.int .i64 g.e.o)).setCell ⟨R, 7, none⟩ (.int .i64 g.e.s)).setCell ⟨R, 8, none⟩ (.string g.e.t)).setCell ⟨R, 9, none⟩ (.string g.e.l)).setCell ⟨R, 10, none⟩ (.int .i64 g.e.d)) R #[.int .i64 g.k, .int .i64 g.ep, .int .i64 g.sq, .int .i64 g.cr, .bool g.on, .string g.fl, .int .i64 g.e.o, .int .i64 g.e.s, .string g.e.t, .string g.e.l, .int .i64 g.e.d, .slice av f.ms.length cap] 26 := h9.set 10 (.int .i64 g.e.d)
  have h11 : Blk ((((((((((((w.setCell ⟨R, 0, none⟩ (.int .i64 g.k)).setCell ⟨R, 1, none⟩ (.int .i64 g.ep)).setCell ⟨R, 2, none⟩ (.int .i64 g.sq)).setCell ⟨R, 3, none⟩ (.int .i64 g.cr)).setCell ⟨R, 4, none⟩ (.bool g.on)).setCell ⟨R, 5, none⟩ (.string g.fl)).setCell ⟨R, 6, none⟩ (.int .i64 g.e.o)).setCell ⟨R, 7, none⟩ (.int .i64 g.e.s)).setCell ⟨R, 8, none⟩ (.string g.e.t)).setCell ⟨R, 9, none⟩ (.string g.e.l)).setCell ⟨R, 10, none⟩ (.int .i64 g.e.d)).setCell ⟨R, 11, none⟩ (.slice av' g.ms.length cap')) R #[.int .i64 g.k, .int .i64 g.ep, .int .i64 g.sq, .int .i64 g.cr, .bool g.on, .string g.fl, .int .i64 g.e.o, .int .i64 g.e.s, .string g.e.t, .string g.e.l, .int .i64 g.e.d, .slice av' g.ms.length cap'] 26 := h10.set 11 (.slice av' g.ms.length cap')
  exact h11

theorem conv_k (W : World) (b : UInt8) (v : Value) (hv : v = .int .u8 b.toNat) :
    (convert 38 9 (.slice (some ⟨W.heap.size, 0, none⟩) 1 1)).run Tryz.prog (W.alloc (.cells #[v] 5)) = .ok (.string ⟨#[b]⟩) (W.alloc (.cells #[v] 5)) := by
  subst hv
  refine run_convert_bytes_back _ _ _ 5 _ _ [b] Tryz.underlying38 Tryz.underlying5 Tryz.underlying9 fun j hj => ?_
  have hadd : (⟨W.heap.size, 0, none⟩ : Addr).add j = ⟨W.heap.size, j, none⟩ := by unfold Addr.add; split <;> simp_all
  have hj0 : j = 0 := by simpa using hj
  subst hj0
  rw [hadd, World.cell?_alloc_at _ _ _ _ rfl]
  rfl
set_option maxHeartbeats 2000000 in
set_option maxRecDepth 100000 in
theorem fcuts_walk (f : Fr.F) (av : Option Addr) (cap : Nat) (k : Int) (w : World) (h : FrIn w f av cap) (hk : I64 k) (hT : Tab w) :
    Calls Tryz.prog 7 #[frv f av cap, .int .i64 k] w fun r w' => r = .returned (.bool true) ∧ Kept w w' := by
  have HI := Lib.hid h
  have HT := Lib.hid hT
  clear h hT
  obtain ⟨hk1, hk2⟩ := hk
  have hK : 0 ≤ bits BinOp.and IntKind.i64 k 65535 ∧ bits BinOp.and IntKind.i64 k 65535 ≤ 65535 := and_mask k 65535 (by decide)
  have b0 := Blk.made w (frc f av cap) 26
  have k0 : Kept w (w.alloc (.cells (frc f av cap) 26)) := (Kept.refl w).alloc _
  obtain ⟨W, hW⟩ : ∃ W, W = w.alloc (.cells (frc f av cap) 26) := ⟨_, rfl⟩
  rw [← hW] at b0 k0
  have CC := Lib.hid (cutf_any f av cap W ⟨HI.out.k, HI.out.ep, HI.out.sq, HI.out.cr, HI.out.fl, HI.out.o, HI.out.s, HI.out.t, HI.out.l, HI.out.d, HI.out.ms.kept k0⟩)
  have B0 := Lib.hid b0
  have K0 := Lib.hid k0
  unfold frv frc at CC
  unfold frv
  unfold frc at hW ⊢
  clear b0 k0
  go_enter Tryz.func7, Tryz.ntmps7
  go_wp2_with fail
  rw [← hW]
  refine CC.out.mono ?_
  rintro r w1 ⟨⟨av', cap', rfl, fs, hnew⟩, k1⟩
  have hsizeW : W.heap.size = w.heap.size + 1 := by rw [hW]; simp
  clear hW CC
  obtain ⟨R, hR⟩ : ∃ R, R = w.heap.size := ⟨_, rfl⟩
  rw [← hR] at B0 hsizeW ⊢
  have b1 := B0.out.kept k1
  have hlow : (cutF f).ms = [] ∨ ∀ x, av' = some x → x.block ≠ R := hnew.imp id fun h x hx => by have := h x hx; omega
  have hln : (cutF f).e.t.size ≤ 200 ∧ (cutF f).fl.size ≤ 200 := ⟨cutS_size _, cutS_size _⟩
  generalize cutF f = g at fs hnew hlow hln ⊢
  have c0 : w1.cell? ⟨R, 0, none⟩ = some (.int .i64 f.k) := cell_of b1 0 rfl
  have cf0 := b1.frozen 0
  have c1 : w1.cell? ⟨R, 1, none⟩ = some (.int .i64 f.ep) := cell_of b1 1 rfl
  have cf1 := b1.frozen 1
  have c2 : w1.cell? ⟨R, 2, none⟩ = some (.int .i64 f.sq) := cell_of b1 2 rfl
  have cf2 := b1.frozen 2
  have c3 : w1.cell? ⟨R, 3, none⟩ = some (.int .i64 f.cr) := cell_of b1 3 rfl
  have cf3 := b1.frozen 3
  have c4 : w1.cell? ⟨R, 4, none⟩ = some (.bool f.on) := cell_of b1 4 rfl
  have cf4 := b1.frozen 4
  have c5 : w1.cell? ⟨R, 5, none⟩ = some (.string f.fl) := cell_of b1 5 rfl
  have cf5 := b1.frozen 5
  have c6 : w1.cell? ⟨R, 6, none⟩ = some (.int .i64 f.e.o) := cell_of b1 6 rfl
  have cf6 := b1.frozen 6
  have c7 : w1.cell? ⟨R, 7, none⟩ = some (.int .i64 f.e.s) := cell_of b1 7 rfl
  have cf7 := b1.frozen 7
  have c8 : w1.cell? ⟨R, 8, none⟩ = some (.string f.e.t) := cell_of b1 8 rfl
  have cf8 := b1.frozen 8
  have c9 : w1.cell? ⟨R, 9, none⟩ = some (.string f.e.l) := cell_of b1 9 rfl
  have cf9 := b1.frozen 9
  have c10 : w1.cell? ⟨R, 10, none⟩ = some (.int .i64 f.e.d) := cell_of b1 10 rfl
  have cf10 := b1.frozen 10
  have c11 : w1.cell? ⟨R, 11, none⟩ = some (.slice av f.ms.length cap) := cell_of b1 11 rfl
  have cf11 := b1.frozen 11
  have B2 := Lib.hid (fr_sets2 b1 g av' cap')
  have F2 := Lib.hid (frs_sets (R := R) fs hlow (.int .i64 g.k) (.int .i64 g.ep) (.int .i64 g.sq) (.int .i64 g.cr) (.bool g.on) (.string g.fl) (.int .i64 g.e.o) (.int .i64 g.e.s) (.string g.e.t) (.string g.e.l) (.int .i64 g.e.d) (.slice av' g.ms.length cap'))
  have K2 := Lib.hid (fr_sets_kept (R := R) (K0.out.trans k1) (by omega) (.int .i64 g.k) (.int .i64 g.ep) (.int .i64 g.sq) (.int .i64 g.cr) (.bool g.on) (.string g.fl) (.int .i64 g.e.o) (.int .i64 g.e.s) (.string g.e.t) (.string g.e.l) (.int .i64 g.e.d) (.slice av' g.ms.length cap'))
  have hRlt := b1.lt
  clear fs hnew hlow k1 b1 hsizeW hR
  go_upto_region 2 with fail
  clear c0 cf0 c1 cf1 c2 cf2 c3 cf3 c4 cf4 c5 cf5 c6 cf6 c7 cf7 c8 cf8 c9 cf9 c10 cf10 c11 cf11 B0 K0
  generalize ((((((((((((w1.setCell ⟨R, 0, none⟩ (.int .i64 g.k)).setCell ⟨R, 1, none⟩ (.int .i64 g.ep)).setCell ⟨R, 2, none⟩ (.int .i64 g.sq)).setCell ⟨R, 3, none⟩ (.int .i64 g.cr)).setCell ⟨R, 4, none⟩ (.bool g.on)).setCell ⟨R, 5, none⟩ (.string g.fl)).setCell ⟨R, 6, none⟩ (.int .i64 g.e.o)).setCell ⟨R, 7, none⟩ (.int .i64 g.e.s)).setCell ⟨R, 8, none⟩ (.string g.e.t)).setCell ⟨R, 9, none⟩ (.string g.e.l)).setCell ⟨R, 10, none⟩ (.int .i64 g.e.d)).setCell ⟨R, 11, none⟩ (.slice av' g.ms.length cap')) = V at B2 F2 K2 ⊢
  have t0 := KW.cell (show V.cell? ⟨R, 0, none⟩ = some (.int .i64 g.k) from cell_of B2.out 0 rfl)
  have t1 := KW.cell (show V.cell? ⟨R, 1, none⟩ = some (.int .i64 g.ep) from cell_of B2.out 1 rfl)
  have t2 := KW.cell (show V.cell? ⟨R, 2, none⟩ = some (.int .i64 g.sq) from cell_of B2.out 2 rfl)
  have t3 := KW.cell (show V.cell? ⟨R, 3, none⟩ = some (.int .i64 g.cr) from cell_of B2.out 3 rfl)
  have t4 := KW.cell (show V.cell? ⟨R, 4, none⟩ = some (.bool g.on) from cell_of B2.out 4 rfl)
  have t5 := KW.cell (show V.cell? ⟨R, 5, none⟩ = some (.string g.fl) from cell_of B2.out 5 rfl)
  have t6 := KW.cell (show V.cell? ⟨R, 6, none⟩ = some (.int .i64 g.e.o) from cell_of B2.out 6 rfl)
  have t7 := KW.cell (show V.cell? ⟨R, 7, none⟩ = some (.int .i64 g.e.s) from cell_of B2.out 7 rfl)
  have t8 := KW.cell (show V.cell? ⟨R, 8, none⟩ = some (.string g.e.t) from cell_of B2.out 8 rfl)
  have t9 := KW.cell (show V.cell? ⟨R, 9, none⟩ = some (.string g.e.l) from cell_of B2.out 9 rfl)
  have t10 := KW.cell (show V.cell? ⟨R, 10, none⟩ = some (.int .i64 g.e.d) from cell_of B2.out 10 rfl)
  have t11 := KW.cell (show V.cell? ⟨R, 11, none⟩ = some (.slice av' g.ms.length cap') from cell_of B2.out 11 rfl)
  obtain ⟨S, hS, sS, lS⟩ := name_row (Fr.put g)
  have C1 : Hid (∀ p : KW V, Calls Tryz.prog 12 #[frv g av' cap'] p.v fun r w' => r = .returned (.string S) ∧ Kept p.v w') := fun p => by
    have h := frput_any g av' cap' p.v (F2.out.kept p.h) (HT.out.kept (K2.out.trans p.h))
    rw [hS] at h
    exact h
  have C2 : Hid (∀ p : KW V, Calls Tryz.prog 10 #[frv g av' cap'] p.v fun r w' => r = .returned (.bool (Fr.right g)) ∧ Kept p.v w') := fun p => frright_any g av' cap' p.v (F2.out.kept p.h)
  have CF : Hid (∀ p : KW V, Calls Tryz.prog 20 #[] p.v fun r w' => r = .returned (.bool true) ∧ Kept p.v w') := fun p => fix_any p.v (HT.out.kept (K2.out.trans p.h))
  unfold frv frc at C1 C2
  have hS700 := Fr.put_len g hln.1 hln.2
  rw [← sS] at hS700
  have LS := Lib.hid lS
  have SS := Lib.hid sS
  have HLN := Lib.hid hln
  clear lS sS hS hln B2 F2
  obtain ⟨p0, hp0⟩ : ∃ p : KW V, p.v = V := ⟨⟨V, Kept.refl V⟩, rfl⟩
  rw [← hp0]
  clear hp0
  go_wp2_with fail
  refine (C1.out _).mono ?_
  rintro r w2 ⟨rfl, k2⟩
  obtain ⟨p1, rfl⟩ : ∃ p : KW V, w2 = p.v := ⟨⟨w2, p0.h.trans k2⟩, rfl⟩
  clear k2 C1
  go_wp2_with fail
  refine (C2.out _).mono ?_
  rintro r w3 ⟨rfl, k3⟩
  obtain ⟨p2, rfl⟩ : ∃ p : KW V, w3 = p.v := ⟨⟨w3, p1.h.trans k3⟩, rfl⟩
  clear k3 C2 t0 t1 t2 t3 t4 t5 t6 t7 t8 t9 t10 t11
  cases hr : Fr.right g with
  | false =>
    have hput : Fr.put g = [] := by rw [Fr.put, hr]; rfl
    obtain rfl : S = ⟨#[]⟩ := by
      have h := LS.out
      rw [hput] at h
      cases S with
      | mk d => cases d with
        | mk l => simp at h; rw [h]
    clear hr
    go_wp2_with fail
    refine (CF.out _).mono ?_
    rintro r w4 ⟨rfl, k4⟩
    have K4 := Lib.hid ((K2.out.trans p2.h).trans k4)
    clear k4
    go_wp2
    go_ret
    exact ⟨rfl, K4.out⟩
  | true =>
    have hpos := Fr.put_pos g hr
    rw [← SS.out] at hpos
    have hin := Fr.inner_len g hr HLN.out.1 HLN.out.2
    have HG1 : Hid (∀ i : Nat, i < S.size → Fr.get (S.extract 0 i).data.toList = (.zero, 3)) := fun i hi => by
      have h := Fr.get_cut g hr hin i (by rw [← SS.out]; exact hi)
      rw [← LS.out] at h
      rw [show (S.extract 0 i).data.toList = S.data.toList.take i by simp [ByteArray.extract, ByteArray.copySlice]]
      exact h
    have HG2 : Hid (∀ c : UInt8, Fr.get (S ++ ⟨#[c]⟩).data.toList = (.zero, 4)) := fun c => by
      have h := Fr.get_more g hr hin c
      rw [← LS.out] at h
      rw [ByteArray.data_append, Array.toList_append]
      exact h
    have hne : S.toList.isEmpty = false := by
      rw [toList_eq]
      cases hd : S.data.toList with
      | nil => have := size_len S; rw [hd] at this; simp at this; omega
      | cons a b => rfl
    have m1 : 0 ≤ bits BinOp.and IntKind.i64 k 65535 % (S.size : Int) := Int.emod_nonneg _ (by omega)
    have m2 : bits BinOp.and IntKind.i64 k 65535 % (S.size : Int) < (S.size : Int) := Int.emod_lt_of_pos _ (by omega)
    have m2' : bits BinOp.and IntKind.i64 k 65535 % (S.size : Int) ≤ (S.size : Int) := by omega
    clear hr hin
    go_wp2_with fail
    refine (frget_any (S.extract 0 (bits BinOp.and IntKind.i64 k 65535 % (S.size : Int)).toNat) _ (by rw [ByteArray.size_extract]; omega) (HT.out.kept (K2.out.trans p2.h))).mono ?_
    rw [HG1.out _ (by omega)]
    rintro r w4 ⟨a4, c4, rfl, _, k4⟩
    have K4 : Hid (Kept w (w4.alloc (.cells #[.int .i64 0, .int .i64 0, .int .i64 0, .int .i64 0, .bool false, .string ⟨#[]⟩, .int .i64 0, .int .i64 0, .string ⟨#[]⟩, .string ⟨#[]⟩, .int .i64 0, .slice a4 0 c4] 26))) := ((K2.out.trans p2.h).trans k4).alloc _
    have J4 : Hid (Kept V (w4.alloc (.cells #[.int .i64 0, .int .i64 0, .int .i64 0, .int .i64 0, .bool false, .string ⟨#[]⟩, .int .i64 0, .int .i64 0, .string ⟨#[]⟩, .string ⟨#[]⟩, .int .i64 0, .slice a4 0 c4] 26))) := (p2.h.trans k4).alloc _
    rw [show frv Fr.F.zero a4 c4 = .agg #[.int .i64 0, .int .i64 0, .int .i64 0, .int .i64 0, .bool false, .string ⟨#[]⟩, .int .i64 0, .int .i64 0, .string ⟨#[]⟩, .string ⟨#[]⟩, .int .i64 0, .slice a4 0 c4] from rfl]
    clear k4
    obtain ⟨c, hc⟩ : ∃ c : UInt8, (c.toNat : Int) = k % 256 := ⟨UInt8.ofNat (k % 256).toNat, by rw [UInt8.toNat_ofNat']; omega⟩
    have hcv := conv_k (w4.alloc (.cells #[.int .i64 0, .int .i64 0, .int .i64 0, .int .i64 0, .bool false, .string ⟨#[]⟩, .int .i64 0, .int .i64 0, .string ⟨#[]⟩, .string ⟨#[]⟩, .int .i64 0, .slice a4 0 c4] 26)) c (.int .u8 (k % 256)) (by rw [hc])
    rw [World.size_alloc] at hcv
    have hwr : IntKind.u8.wrap k = k % 256 := by simp [IntKind.wrap, IntKind.signed, IntKind.bits]
    have HC := Lib.hid hc
    clear hc m1 m2 m2'
    go_wp2_with fail
    have G5 := HG2.out c
    have z5 : (S ++ ⟨#[c]⟩ : ByteArray).size = S.size + 1 := by rw [ByteArray.size_append]; rfl
    have kx := K4.out.alloc (.cells #[.int .u8 (k % 256)] 5)
    have jx := J4.out.alloc (.cells #[.int .u8 (k % 256)] 5)
    clear hcv hwr K4 J4
    generalize hQ : (S ++ ⟨#[c]⟩ : ByteArray) = Q at G5 z5 ⊢
    generalize hX : World.alloc _ (.cells #[.int .u8 (k % 256)] 5) = X at kx jx ⊢
    refine (frget_any Q X (by omega) (HT.out.kept kx)).mono ?_
    rw [G5]
    rintro r w5 ⟨a5, c5, rfl, _, k5⟩
    have K5 : Hid (Kept w (w5.alloc (.cells #[.int .i64 0, .int .i64 0, .int .i64 0, .int .i64 0, .bool false, .string ⟨#[]⟩, .int .i64 0, .int .i64 0, .string ⟨#[]⟩, .string ⟨#[]⟩, .int .i64 0, .slice a5 0 c5] 26))) := (kx.trans k5).alloc _
    have J5 : Hid (Kept V (w5.alloc (.cells #[.int .i64 0, .int .i64 0, .int .i64 0, .int .i64 0, .bool false, .string ⟨#[]⟩, .int .i64 0, .int .i64 0, .string ⟨#[]⟩, .string ⟨#[]⟩, .int .i64 0, .slice a5 0 c5] 26))) := (jx.trans k5).alloc _
    rw [show frv Fr.F.zero a5 c5 = .agg #[.int .i64 0, .int .i64 0, .int .i64 0, .int .i64 0, .bool false, .string ⟨#[]⟩, .int .i64 0, .int .i64 0, .string ⟨#[]⟩, .string ⟨#[]⟩, .int .i64 0, .slice a5 0 c5] from rfl]
    clear k5 kx jx hQ hX G5 z5
    go_wp2_with fail
    refine (CF.out ⟨_, J5.out⟩).mono ?_
    rintro r w6 ⟨rfl, k6⟩
    have K6 := Lib.hid (K5.out.trans k6)
    clear k6
    go_wp2
    go_ret
    exact ⟨rfl, K6.out⟩
end Go.Proofs.YtlfmpoinjbmjoaaGreatDoor
