/-
  FrameBits: the walk. Written by wip/mkfbits.py out of Lfcuts's head.
-/
import Derived.Test.YtlfmpoinjbmjoaaGreatDoorLfcuts
import Derived.Test.YtlfmpoinjbmjoaaGreatDoorFrefi
import Derived.Lib.AppendStr
import Derived.BigRegion
namespace Go.Proofs.YtlfmpoinjbmjoaaGreatDoor
open Go.ChangeShapes Go.WideShapes Go.ChangeAt Go.RowKit

theorem strCells_at (s : ByteArray) (i : Nat) : (Lib.strCells s)[i]? = (s.data.toList[i]?).map fun b => Value.int .u8 b.toNat := by
  simp [Lib.strCells]
theorem strCells_set (s : ByteArray) (i : Nat) (d : UInt8) : (Lib.strCells s).set i (.int .u8 (d.toNat : Int)) = (s.data.toList.set i d).map fun b => Value.int .u8 b.toNat := by
  rw [List.map_set]; simp [Lib.strCells]
/-- a byte one bit of which is turned -/
theorem turned (c : UInt8) (t : Nat) (ht : t ≤ 7) : ∃ d : UInt8, c ≠ d ∧ bits BinOp.xor IntKind.u8 (c.toNat : Int) (2 ^ t % 256) = (d.toNat : Int) := by
  have hc := c.toNat_lt
  have h2 : 2 ^ t < 256 := by
    have : 2 ^ t ≤ 2 ^ 7 := Nat.pow_le_pow_right (by decide) ht
    omega
  have hp : 0 < 2 ^ t := Nat.pow_pos (by decide)
  have hx : c.toNat ^^^ 2 ^ t < 256 := Nat.xor_lt_two_pow (n := 8) (by omega) (by omega)
  refine ⟨UInt8.ofNat (c.toNat ^^^ 2 ^ t), fun e => ?_, ?_⟩
  · have e2 := congrArg UInt8.toNat e
    rw [Vn.ofNat_toNat _ hx] at e2
    have e3 := congrArg (c.toNat ^^^ ·) e2
    simp only [Nat.xor_self, ← Nat.xor_assoc, Nat.zero_xor] at e3
    omega
  · rw [Vn.ofNat_toNat _ hx, ← u8_xor_nat c.toNat (2 ^ t) (by omega) h2]
    have e : ((2 ^ t : Nat) : Int) = 2 ^ t % 256 := by
      have : ((2 ^ t : Nat) : Int) = (2 : Int) ^ t := by simp
      rw [← this]
      omega
    rw [e]
theorem conv_rowb {w : World} {base g n cap : Nat} {xs : List Value} (h : w.ownsRow base 5 1 (.slice (some ⟨g, 0, none⟩) n cap) n xs) (l : List UInt8) (hl : l.length = n) (hx : xs = l.map fun b => Value.int .u8 b.toNat) (X : World) (k : Kept w X) :
    (convert 38 9 (.slice (some ⟨g, 0, none⟩) n cap)).run Tryz.prog X = .ok (.string ⟨l.toArray⟩) X := by
  have h2 := own_kept h k
  subst hl hx
  refine run_convert_bytes_back _ _ _ 5 _ _ l Tryz.underlying38 Tryz.underlying5 Tryz.underlying9 fun j hj => ?_
  have hadd : (⟨g, 0, none⟩ : Addr).add j = ⟨g, j, none⟩ := by unfold Addr.add; split <;> simp_all
  rw [hadd, World.ownsRow.cellAt h2 j (by omega), List.getElem?_map, List.getElem?_eq_getElem hj]
  rfl
theorem own_bytes0 (w : World) : (w.alloc (.cells #[] 5)).ownsRow w.heap.size 5 1 (.slice (some ⟨w.heap.size, 0, none⟩) 0 0) 0 [] :=
  ⟨rfl, .inr ⟨w.heap.size, 0, #[], rfl, Nat.le_refl _, heap_alloc_new w _, Nat.le_refl _, Nat.zero_le _, rfl, rfl⟩⟩

set_option maxHeartbeats 1000000 in
set_option maxRecDepth 100000 in
theorem rsame7_any (f : Fr.F) (av bv : Option Addr) (ca cb : Nat) (w : World) (h : MkS w av ca f.ms) (h' : MkS w bv cb f.ms) :
    Calls Tryz.prog 17 #[frv f av ca, frv f bv cb] w fun r w' => r = .returned (.bool true) ∧ Kept w w' := by
  have kk : Kept w ((w.alloc (.cells (frc f av ca) 26)).alloc (.cells (frc f bv cb) 26)) := ((Kept.refl w).alloc _).alloc _
  have CE := Lib.hid (equal_any av bv ca cb f.ms _ (h.kept kk) (h'.kept kk))
  have KK := Lib.hid kk
  clear kk h h'
  have q := eql_event f.e.o f.e.s f.e.d f.e.t f.e.l f.e.o f.e.s f.e.d f.e.t f.e.l
  unfold frv frc at CE KK ⊢
  go_enter Tryz.func17, Tryz.ntmps17
  go_wp2_with fail
  refine CE.out.mono ?_
  rintro r w1 ⟨rfl, k1⟩
  go_wp2
  go_ret
  exact ⟨rfl, KK.out.trans k1⟩

set_option maxHeartbeats 2000000 in
set_option maxRecDepth 100000 in
theorem fbits_walk (f : Fr.F) (av : Option Addr) (cap : Nat) (k bt : Int) (w : World) (h : FrIn w f av cap) (hk : I64 k) (hbt : I64 bt) (hT : Tab w) :
    Calls Tryz.prog 5 #[frv f av cap, .int .i64 k, .int .i64 bt] w fun r w' => r = .returned (.bool true) ∧ Kept w w' := by
  have HI := Lib.hid h
  have HT := Lib.hid hT
  clear h hT
  obtain ⟨hk1, hk2⟩ := hk
  obtain ⟨hbt1, hbt2⟩ := hbt
  obtain ⟨i0, hi, hz0, hz1, hz2⟩ := info_parts infoU8
  have Hi := Lib.hid hi
  have Hz0 := Lib.hid hz0
  have Hz1 := Lib.hid hz1
  have Hz2 := Lib.hid hz2
  clear hi hz0 hz1 hz2
  have b0 := Blk.made w (frc f av cap) 26
  have k0 : Kept w (w.alloc (.cells (frc f av cap) 26)) := (Kept.refl w).alloc _
  obtain ⟨W, hW⟩ : ∃ W, W = w.alloc (.cells (frc f av cap) 26) := ⟨_, rfl⟩
  rw [← hW] at b0 k0
  have CC := Lib.hid (cutf_any f av cap W ⟨HI.out.k, HI.out.ep, HI.out.sq, HI.out.cr, HI.out.fl, HI.out.o, HI.out.s, HI.out.t, HI.out.l, HI.out.d, HI.out.ms.kept k0⟩)
  have B0 := Lib.hid b0
  have K0 := Lib.hid k0
  unfold frv frc at CC
  unfold frv
  unfold frc at hW ⊢
  clear b0 k0
  go_enter Tryz.func5, Tryz.ntmps5
  go_wp2_with fail
  rw [← hW]
  refine CC.out.mono ?_
  rintro r w1 ⟨⟨av', cap', rfl, fs, hnew⟩, k1⟩
  have hsizeW : W.heap.size = w.heap.size + 1 := by rw [hW]; simp
  clear hW CC
  obtain ⟨R, hR⟩ : ∃ R, R = w.heap.size := ⟨_, rfl⟩
  rw [← hR] at B0 hsizeW ⊢
  have b1 := B0.out.kept k1
  have hlow : (cutF f).ms = [] ∨ ∀ x, av' = some x → x.block ≠ R := hnew.imp id fun h x hx => by have := h x hx; omega
  have hln : (cutF f).e.t.size ≤ 200 ∧ (cutF f).fl.size ≤ 200 := ⟨cutS_size _, cutS_size _⟩
  generalize cutF f = g at fs hnew hlow hln ⊢
  have c0 : w1.cell? ⟨R, 0, none⟩ = some (.int .i64 f.k) := cell_of b1 0 rfl
  have cf0 := b1.frozen 0
  have c1 : w1.cell? ⟨R, 1, none⟩ = some (.int .i64 f.ep) := cell_of b1 1 rfl
  have cf1 := b1.frozen 1
  have c2 : w1.cell? ⟨R, 2, none⟩ = some (.int .i64 f.sq) := cell_of b1 2 rfl
  have cf2 := b1.frozen 2
  have c3 : w1.cell? ⟨R, 3, none⟩ = some (.int .i64 f.cr) := cell_of b1 3 rfl
  have cf3 := b1.frozen 3
  have c4 : w1.cell? ⟨R, 4, none⟩ = some (.bool f.on) := cell_of b1 4 rfl
  have cf4 := b1.frozen 4
  have c5 : w1.cell? ⟨R, 5, none⟩ = some (.string f.fl) := cell_of b1 5 rfl
  have cf5 := b1.frozen 5
  have c6 : w1.cell? ⟨R, 6, none⟩ = some (.int .i64 f.e.o) := cell_of b1 6 rfl
  have cf6 := b1.frozen 6
  have c7 : w1.cell? ⟨R, 7, none⟩ = some (.int .i64 f.e.s) := cell_of b1 7 rfl
  have cf7 := b1.frozen 7
  have c8 : w1.cell? ⟨R, 8, none⟩ = some (.string f.e.t) := cell_of b1 8 rfl
  have cf8 := b1.frozen 8
  have c9 : w1.cell? ⟨R, 9, none⟩ = some (.string f.e.l) := cell_of b1 9 rfl
  have cf9 := b1.frozen 9
  have c10 : w1.cell? ⟨R, 10, none⟩ = some (.int .i64 f.e.d) := cell_of b1 10 rfl
  have cf10 := b1.frozen 10
  have c11 : w1.cell? ⟨R, 11, none⟩ = some (.slice av f.ms.length cap) := cell_of b1 11 rfl
  have cf11 := b1.frozen 11
  have B2 := Lib.hid (fr_sets2 b1 g av' cap')
  have F2 := Lib.hid (frs_sets (R := R) fs hlow (.int .i64 g.k) (.int .i64 g.ep) (.int .i64 g.sq) (.int .i64 g.cr) (.bool g.on) (.string g.fl) (.int .i64 g.e.o) (.int .i64 g.e.s) (.string g.e.t) (.string g.e.l) (.int .i64 g.e.d) (.slice av' g.ms.length cap'))
  have K2 := Lib.hid (fr_sets_kept (R := R) (K0.out.trans k1) (by omega) (.int .i64 g.k) (.int .i64 g.ep) (.int .i64 g.sq) (.int .i64 g.cr) (.bool g.on) (.string g.fl) (.int .i64 g.e.o) (.int .i64 g.e.s) (.string g.e.t) (.string g.e.l) (.int .i64 g.e.d) (.slice av' g.ms.length cap'))
  have hRlt := b1.lt
  clear fs hnew hlow k1 b1 hsizeW hR
  go_upto_region 2 with fail
  clear c0 cf0 c1 cf1 c2 cf2 c3 cf3 c4 cf4 c5 cf5 c6 cf6 c7 cf7 c8 cf8 c9 cf9 c10 cf10 c11 cf11 B0 K0
  generalize ((((((((((((w1.setCell ⟨R, 0, none⟩ (.int .i64 g.k)).setCell ⟨R, 1, none⟩ (.int .i64 g.ep)).setCell ⟨R, 2, none⟩ (.int .i64 g.sq)).setCell ⟨R, 3, none⟩ (.int .i64 g.cr)).setCell ⟨R, 4, none⟩ (.bool g.on)).setCell ⟨R, 5, none⟩ (.string g.fl)).setCell ⟨R, 6, none⟩ (.int .i64 g.e.o)).setCell ⟨R, 7, none⟩ (.int .i64 g.e.s)).setCell ⟨R, 8, none⟩ (.string g.e.t)).setCell ⟨R, 9, none⟩ (.string g.e.l)).setCell ⟨R, 10, none⟩ (.int .i64 g.e.d)).setCell ⟨R, 11, none⟩ (.slice av' g.ms.length cap')) = V at B2 F2 K2 ⊢
  have t0 := KW.cell (show V.cell? ⟨R, 0, none⟩ = some (.int .i64 g.k) from cell_of B2.out 0 rfl)
  have t1 := KW.cell (show V.cell? ⟨R, 1, none⟩ = some (.int .i64 g.ep) from cell_of B2.out 1 rfl)
  have t2 := KW.cell (show V.cell? ⟨R, 2, none⟩ = some (.int .i64 g.sq) from cell_of B2.out 2 rfl)
  have t3 := KW.cell (show V.cell? ⟨R, 3, none⟩ = some (.int .i64 g.cr) from cell_of B2.out 3 rfl)
  have t4 := KW.cell (show V.cell? ⟨R, 4, none⟩ = some (.bool g.on) from cell_of B2.out 4 rfl)
  have t5 := KW.cell (show V.cell? ⟨R, 5, none⟩ = some (.string g.fl) from cell_of B2.out 5 rfl)
  have t6 := KW.cell (show V.cell? ⟨R, 6, none⟩ = some (.int .i64 g.e.o) from cell_of B2.out 6 rfl)
  have t7 := KW.cell (show V.cell? ⟨R, 7, none⟩ = some (.int .i64 g.e.s) from cell_of B2.out 7 rfl)
  have t8 := KW.cell (show V.cell? ⟨R, 8, none⟩ = some (.string g.e.t) from cell_of B2.out 8 rfl)
  have t9 := KW.cell (show V.cell? ⟨R, 9, none⟩ = some (.string g.e.l) from cell_of B2.out 9 rfl)
  have t10 := KW.cell (show V.cell? ⟨R, 10, none⟩ = some (.int .i64 g.e.d) from cell_of B2.out 10 rfl)
  have t11 := KW.cell (show V.cell? ⟨R, 11, none⟩ = some (.slice av' g.ms.length cap') from cell_of B2.out 11 rfl)
  obtain ⟨S, hS, sS, lS⟩ := name_row (Fr.put g)
  have C1 : Hid (∀ p : KW V, Calls Tryz.prog 12 #[frv g av' cap'] p.v fun r w' => r = .returned (.string S) ∧ Kept p.v w') := fun p => by
    have h := frput_any g av' cap' p.v (F2.out.kept p.h) (HT.out.kept (K2.out.trans p.h))
    rw [hS] at h
    exact h
  have C2 : Hid (∀ p : KW V, Calls Tryz.prog 10 #[frv g av' cap'] p.v fun r w' => r = .returned (.bool (Fr.right g)) ∧ Kept p.v w') := fun p => frright_any g av' cap' p.v (F2.out.kept p.h)
  have CF : Hid (∀ p : KW V, Calls Tryz.prog 20 #[] p.v fun r w' => r = .returned (.bool true) ∧ Kept p.v w') := fun p => fix_any p.v (HT.out.kept (K2.out.trans p.h))
  unfold frv frc at C1 C2
  have hS700 := Fr.put_len g hln.1 hln.2
  rw [← sS] at hS700
  have LS := Lib.hid lS
  have SS := Lib.hid sS
  have HLN := Lib.hid hln
  clear lS sS hS hln B2 F2
  obtain ⟨p0, hp0⟩ : ∃ p : KW V, p.v = V := ⟨⟨V, Kept.refl V⟩, rfl⟩
  rw [← hp0]
  clear hp0
  go_wp2_with fail
  refine (C1.out _).mono ?_
  rintro r w2 ⟨rfl, k2⟩
  obtain ⟨p1, rfl⟩ : ∃ p : KW V, w2 = p.v := ⟨⟨w2, p0.h.trans k2⟩, rfl⟩
  clear k2 C1
  go_wp2_with fail
  refine (C2.out _).mono ?_
  rintro r w3 ⟨rfl, k3⟩
  obtain ⟨p2, rfl⟩ : ∃ p : KW V, w3 = p.v := ⟨⟨w3, p1.h.trans k3⟩, rfl⟩
  clear k3 C2 t0 t1 t2 t3 t4 t5 t6 t7 t8 t9 t10 t11
  cases hr : Fr.right g with
  | false =>
    have hput : Fr.put g = [] := by rw [Fr.put, hr]; rfl
    obtain rfl : S = ⟨#[]⟩ := by
      have h := LS.out
      rw [hput] at h
      cases S with
      | mk d => cases d with
        | mk l => simp at h; rw [h]
    clear hr
    go_wp2_with fail
    refine (CF.out _).mono ?_
    rintro r w4 ⟨rfl, k4⟩
    have K4 := Lib.hid ((K2.out.trans p2.h).trans k4)
    clear k4
    go_wp2
    go_ret
    exact ⟨rfl, K4.out⟩
  | true =>
    have hpos := Fr.put_pos g hr
    rw [← SS.out] at hpos
    have hin := Fr.inner_len g hr HLN.out.1 HLN.out.2
    have hne : S.toList.isEmpty = false := by
      rw [toList_eq]
      cases hd : S.data.toList with
      | nil => have := size_len S; rw [hd] at this; simp at this; omega
      | cons a b => rfl
    obtain ⟨M, hM⟩ : ∃ M : Nat, bits BinOp.and IntKind.i64 k 65535 = (M : Int) := ⟨(bits BinOp.and IntKind.i64 k 65535).toNat, by have := and_mask k 65535 (by decide); simp only [Int.cast_ofNat_Int] at this; omega⟩
    have r1 : (bits BinOp.and IntKind.i64 k 65535).tmod (S.size : Int) = ((M % S.size : Nat) : Int) := by rw [hM, Int.tmod_eq_emod_of_nonneg (by omega)]; exact (Int.natCast_emod M S.size).symm
    have hJ : M % S.size < S.size := Nat.mod_lt _ (by omega)
    generalize M % S.size = J at r1 hJ
    have HTU : Hid (∀ d : UInt8, 2 ≤ J → S.data.toList[J]? ≠ some d → (Fr.get (S.data.toList.set J d)).2 = 5) := fun d h2 hd => by
      have := Fr.get_turn g hr hin J (by rw [← SS.out]; exact hJ) h2 d (by rw [← LS.out]; exact hd)
      rw [← LS.out] at this
      exact this
    clear hM hr hin hne
    have hSz : S.size ≤ 720 := hS700
    go_wp2_with (first
      | (at_builtin; refine Lib.wpList_append_own_string _ rfl _ _ 38 9 rfl p2.v.heap.size 5 i0 Tryz.underlying38 Tryz.underlying9 Hi.out Hz0.out Hz1.out Hz2.out _ 0 [] rfl (own_bytes0 _) S rfl (by unfold maxLen; omega) (by omega) (by simp) ?_))
    intro v' w4 hown hgrow _
    obtain ⟨gg, cc, rfl, hg1, hg2⟩ := hown.form (by omega)
    have k4 : Kept p2.v w4 := kept_grown (Kept.alloc (Kept.refl _) _) hgrow (fun k hk => by simp [Value.ownBlock] at hk; omega)
    have hkq : J < S.data.toList.length := by rw [size_len]; exact hJ
    have hcell : w4.cell? ⟨gg, J, none⟩ = some (.int .u8 ((S.data.toList[J]).toNat : Int)) := by
      rw [World.ownsRow.cellAt hown J (by omega), strCells_at, List.getElem?_eq_getElem hkq]
      rfl
    have hfz := World.ownsRow.frozenAt hown J
    obtain ⟨t, ht⟩ : ∃ t : Nat, bits BinOp.and IntKind.i64 bt 7 = (t : Int) := ⟨(bits BinOp.and IntKind.i64 bt 7).toNat, by have := and_mask bt 7 (by decide); simp only [Int.cast_ofNat_Int] at this; omega⟩
    have ht7 : t ≤ 7 := by have := and_mask bt 7 (by decide); simp only [Int.cast_ofNat_Int] at this; omega
    obtain ⟨c, hc⟩ : ∃ c, c = S.data.toList[J] := ⟨_, rfl⟩
    rw [← hc] at hcell
    have hcb := c.toNat_lt
    obtain ⟨d, hd, hX⟩ := turned c t ht7
    have hown3 := (World.ownsRow.stored hown J (.int .u8 (d.toNat : Int))).1
    have hcv := conv_rowb hown3 (S.data.toList.set J d) (by rw [List.length_set, size_len]) (strCells_set S J d)
    have hget : 2 ≤ J → (Fr.get (S.data.toList.set J d)).2 = 5 := fun h2 => HTU.out d h2 (by
      rw [List.getElem?_eq_getElem hkq, ← hc]
      intro e
      exact hd (Option.some.inj e))
    obtain ⟨p, hp, sp, lp⟩ := name_row (S.data.toList.set J d)
    rw [show (Value.string ⟨(S.data.toList.set J d).toArray⟩) = .string p from hp] at hcv
    rw [← lp] at hget
    have sp2 : p.size ≤ 720 := by rw [sp, List.length_set, size_len]; exact hSz
    have k5 : Kept p2.v (w4.setCell ⟨gg, J, none⟩ (.int .u8 (d.toNat : Int))).drew := Kept.drew (Below.setCell k4 (p := ⟨gg, J, none⟩) hg1 _)
    have K5 := Lib.hid ((K2.out.trans p2.h).trans k5)
    have V5 := Lib.hid (p2.h.trans k5)
    have hcv1 := hcv _ (Kept.drew (Kept.refl _))
    have FC : Hid (∀ X, Kept (w4.setCell ⟨gg, J, none⟩ (.int .u8 (d.toNat : Int))).drew X → (convert 38 9 (.slice (some ⟨gg, 0, none⟩) S.size cc)).run Tryz.prog X = .ok (.string p) X) := fun X q => hcv X ((Kept.drew (Kept.refl _)).trans q)
    have HGT := Lib.hid hget
    obtain ⟨⟨F, er⟩, hFe⟩ : ∃ y, y = Fr.get p.data.toList := ⟨_, rfl⟩
    have HFE := Lib.hid hFe
    clear hc hown hgrow hcv hget hp sp lp hown3 hkq HTU k4 k5 hFe
    go_wp2
    go_region
    all_goals
      generalize hW5 : (w4.setCell ⟨gg, J, none⟩ (.int .u8 (d.toNat : Int))).drew = W5 at K5 V5 hcv1 FC ⊢
      clear hcell hfz hX hW5 ht
      go_wp2_with fail
      refine (frget_any p _ (by omega) (HT.out.kept K5.out)).mono ?_
      rw [← HFE.out]
      rintro r w6 ⟨a6, c6, rfl, fs6, k6⟩
      have ka : Kept w6 (w6.alloc (.cells (frc F a6 c6) 26)) := (Kept.refl w6).alloc _
      have BA := Lib.hid (Blk.made w6 (frc F a6 c6) 26)
      have FA := Lib.hid (fs6.kept ka)
      have K6 := Lib.hid (k6.trans ka)
      have hcv2 := FC.out _ (k6.trans ka)
      simp only
      unfold frc at BA FA K6 hcv2
      unfold frv frc
      clear k6 ka fs6 hcv1 FC
      go_wp2_with fail
      refine (rget7_any p _ (by omega)).mono ?_
      rw [← HFE.out]
      rintro r w7 ⟨a7, c7, rfl, fs7, k7⟩
      have kb : Kept w7 (w7.alloc (.cells (frc F a7 c7) 26)) := (Kept.refl w7).alloc _
      have BB := Lib.hid (Blk.made w7 (frc F a7 c7) 26)
      have FB := Lib.hid (fs7.kept kb)
      unfold frc at kb BB FB
      have FA2 := Lib.hid (FA.out.kept (k7.trans kb))
      have zl1 := blk_rule (BA.out.kept (k7.trans kb))
      have zl2 := blk_rule BB.out
      have K7 := Lib.hid (K6.out.trans (k7.trans kb))
      have CS := Lib.hid (rsame7_any F a6 a7 c6 c7 _ FA2.out.ms FB.out.ms)
      unfold frv frc at CS
      simp only
      unfold frv frc
      clear k7 kb BA BB FA FB FA2 fs7 hcv2 K6
      by_cases hj2 : J < 2
      · have j2 : (J : Int) < 2 := by omega
        go_wp2_with fail
        refine CS.out.mono ?_
        rintro r w8 ⟨rfl, k8⟩
        have K8 := Lib.hid (K7.out.trans k8)
        clear k8 CS zl1 zl2
        go_wp2_with fail
        refine (CF.out ⟨_, V5.out.trans K8.out⟩).mono ?_
        rintro r w9 ⟨rfl, k9⟩
        have K9 := Lib.hid ((K5.out.trans K8.out).trans k9)
        clear k9
        go_wp2
        go_ret
        exact ⟨rfl, K9.out⟩
      · have j2 : ¬ ((J : Int) < 2) := by omega
        obtain rfl : er = 5 := by
          have h := HGT.out (by omega)
          rw [← HFE.out] at h
          exact h
        go_wp2_with fail
        refine CS.out.mono ?_
        rintro r w8 ⟨rfl, k8⟩
        have K8 := Lib.hid (K7.out.trans k8)
        clear k8 CS zl1 zl2
        go_wp2_with fail
        refine (CF.out ⟨_, V5.out.trans K8.out⟩).mono ?_
        rintro r w9 ⟨rfl, k9⟩
        have K9 := Lib.hid ((K5.out.trans K8.out).trans k9)
        clear k9
        go_wp2
        go_ret
        exact ⟨rfl, K9.out⟩
end Go.Proofs.YtlfmpoinjbmjoaaGreatDoor
