/-
  The law's fixed calls.
-/
import Derived.Test.YtcachpcefeoolaaMturn
namespace Go.Proofs.Ytcachpcefeoolaa
open Go.ChangeShapes Go.WideShapes Go.ChangeAt Go.RowKit

theorem strs_one (w : World) (p : ByteArray) : Strs (w.alloc (.cells #[.string p] 9)) (.slice (some ⟨w.heap.size, 0, none⟩) 1 1) [p.data.toList] :=
  ⟨_, 1, rfl, Nat.le_refl _, by unfold maxLen; decide, .inr ⟨w.heap.size, 0, rfl, heap_lt (heap_alloc_new w _), fun i x hx => by
    match i, hx with
    | 0, hx => cases hx; exact World.cell?_alloc_at _ _ _ _ rfl⟩⟩

set_option maxHeartbeats 2000000 in
set_option maxRecDepth 100000 in
theorem fix_any (w : World) : Calls Try.prog 26 #[] w fun e w' => e = .returned (.bool true) ∧ Kept w w' := by
  go_enter Try.func26, Try.ntmps26
  go_wp2_with fail
  refine (new_ok 1 _ (by decide) (by decide)).mono ?_
  rintro e w1 ⟨b, c, rfl, hb0, hc0, hx1, k1⟩
  have X1 := Lib.hid hx1
  have K1 := Lib.hid k1
  clear hx1 k1
  go_wp2_with fail
  refine (new_ok 2 _ (by decide) (by decide)).mono ?_
  rintro e w2 ⟨b', c', rfl, hb1, hc1, hx2, k2⟩
  have Y2 := Lib.hid hx2
  have X2 := Lib.hid (X1.out.kept k2)
  have K2 := Lib.hid (K1.out.trans k2)
  have hcc : c' ≠ c := by have := X1.out.ch.lt; omega
  have hbb : b' ≠ b := by have := heap_lt X1.out.blk; omega
  have hcy : w.heap.size ≤ c' := Nat.le_trans K1.out.size hc1
  clear hx2 k2 X1 K1
  go_wp2_with fail
  refine (new_bad 0 _ (Or.inl (by decide))).mono ?_
  rintro e w3 ⟨rfl, k3⟩
  go_wp2_with fail
  refine (new_bad 257 _ (Or.inr (by decide))).mono ?_
  rintro e w4 ⟨rfl, k4⟩
  have X4 := Lib.hid ((X2.out.kept k3).kept k4)
  have Y4 := Lib.hid ((Y2.out.kept k3).kept k4)
  have K4 := Lib.hid ((K2.out.trans k3).trans k4)
  clear k3 k4 X2 Y2 K2
  go_wp2_with fail
  refine (put_room b c 1 [] ⟨#[97]⟩ _ X4.out (by decide) (by decide)).mono ?_
  rintro e w5 ⟨rfl, x5, b5⟩
  have X5 := Lib.hid x5
  have Y5 := Lib.hid (Y4.out.over X4.out hcc b5)
  have K5 := Lib.hid (But.after K4.out b5 fun i hi h => by omega)
  clear x5 b5 X4 Y4 K4
  go_wp2_with fail
  refine (put_full b c 1 _ ⟨#[98]⟩ _ X5.out (by decide) (by decide)).mono ?_
  rintro e w6 ⟨rfl, k6⟩
  have X6 := Lib.hid (X5.out.kept k6)
  have Y6 := Lib.hid (Y5.out.kept k6)
  have K6 := Lib.hid (K5.out.trans k6)
  clear k6 X5 Y5 K5
  go_wp2_with fail
  refine (put_room b' c' 2 [] ⟨#[120]⟩ _ Y6.out (by decide) (by decide)).mono ?_
  rintro e w7 ⟨rfl, y7, b7⟩
  have Y7 := Lib.hid y7
  have X7 := Lib.hid (X6.out.over Y6.out hcc.symm b7)
  have K7 := Lib.hid (But.after K6.out b7 fun i hi h => by omega)
  clear y7 b7 X6 Y6 K6
  go_wp2_with fail
  refine (put_room b' c' 2 _ ⟨#[121]⟩ _ Y7.out (by decide) (by decide)).mono ?_
  rintro e w8 ⟨rfl, y8, b8⟩
  have Y8 := Lib.hid y8
  have X8 := Lib.hid (X7.out.over Y7.out hcc.symm b8)
  have K8 := Lib.hid (But.after K7.out b8 fun i hi h => by omega)
  clear y8 b8 X7 Y7 K7
  go_wp2_with fail
  refine (first_any b c 1 _ _ X8.out).mono ?_
  rintro e w9 ⟨rfl, x9, b9⟩
  have X9 := Lib.hid x9
  have Y9 := Lib.hid (Y8.out.over X8.out hcc b9)
  have K9 := Lib.hid (But.after K8.out b9 fun i hi h => by omega)
  clear x9 b9 X8 Y8 K8
  rw [show tells ([] ++ [(⟨#[97]⟩ : ByteArray)]) = .tuple #[.string ⟨#[97]⟩, .bool true] from rfl]
  go_wp2_with fail
  have ka := (Kept.refl w9).alloc (.cells #[.pointer (some ⟨b, 0, none⟩), .pointer (some ⟨b', 0, none⟩)] 23)
  refine (turn2 w9.heap.size 2 b c 1 b' c' 2 _ _ 1 _ (two_new w9 b b') (X9.out.kept ka) (Y9.out.kept ka) hcc).mono ?_
  rintro e w10 ⟨rfl, x10, y10, b10⟩
  have X10 := Lib.hid x10
  have Y10 := Lib.hid y10
  have K10 := Lib.hid (But.after (K9.out.trans ka) b10 fun i hi h => by omega)
  clear ka x10 y10 b10 X9 Y9 K9
  rw [show tw 1 ([] ++ [(⟨#[97]⟩ : ByteArray)]) ([] ++ [(⟨#[120]⟩ : ByteArray)] ++ [(⟨#[121]⟩ : ByteArray)]) = ⟨1, ⟨#[120]⟩, true, [⟨#[97]⟩], [⟨#[121]⟩]⟩ from rfl] at X10 Y10
  rw [show (tw 1 ([] ++ [(⟨#[97]⟩ : ByteArray)]) ([] ++ [(⟨#[120]⟩ : ByteArray)] ++ [(⟨#[121]⟩ : ByteArray)])).val = .tuple #[.int .i64 1, .string ⟨#[120]⟩, .bool true] from rfl]
  go_wp2_with fail
  refine (copy_any b' c' 2 _ _ Y10.out).mono ?_
  rintro e w11 ⟨d, dc, rfl, hd, hdc, d11, y11, b11⟩
  have D11 := Lib.hid d11
  have Y11 := Lib.hid y11
  have X11 := Lib.hid (X10.out.over Y10.out hcc.symm b11)
  have K11 := Lib.hid (But.after K10.out b11 fun i hi h => by omega)
  have hdc1 : dc ≠ c := by have := X10.out.ch.lt; omega
  have hdc2 : dc ≠ c' := by have := Y10.out.ch.lt; omega
  have hdc3 : w.heap.size ≤ dc := by have := K10.out.size; omega
  clear d11 y11 b11 X10 Y10 K10
  go_wp2_with fail
  refine (take_some b c 1 ⟨#[97]⟩ [] _ X11.out).mono ?_
  rintro e w12 ⟨rfl, x12, b12⟩
  have X12 := Lib.hid x12
  have Y12 := Lib.hid (Y11.out.over X11.out hcc b12)
  have D12 := Lib.hid (D11.out.over X11.out hdc1 b12)
  have K12 := Lib.hid (But.after K11.out b12 fun i hi h => by omega)
  clear x12 b12 X11 Y11 D11 K11
  go_wp2_with fail
  refine (take_none b c 1 _ X12.out).mono ?_
  rintro e w13 ⟨rfl, k13⟩
  have X13 := Lib.hid (X12.out.kept k13)
  have Y13 := Lib.hid (Y12.out.kept k13)
  have D13 := Lib.hid (D12.out.kept k13)
  have K13 := Lib.hid (K12.out.trans k13)
  clear k13 X12 Y12 D12 K12
  go_wp2_with fail
  have ka := (Kept.refl w13).alloc (.cells #[.pointer (some ⟨b, 0, none⟩)] 23)
  have hg := heap_alloc_new w13 (.cells #[.pointer (some ⟨b, 0, none⟩)] 23)
  have tt := turn_any 1 (fun _ => ⟨b, c, 1, []⟩) w13.heap.size 1 0 _ (by decide) (by decide) (heap_lt hg)
    (by intro i hi; match i, hi with | 0, _ => exact World.cell?_alloc_at _ _ _ _ rfl) (by intro i hi; exact X13.out.kept ka)
  refine tt.mono ?_
  clear tt hg
  rintro e w14 (⟨_, rfl, k14⟩ | ⟨i, x, t, _, _, h0, _⟩)
  case inr => cases h0
  have Y14 := Lib.hid ((Y13.out.kept ka).kept k14)
  have D14 := Lib.hid ((D13.out.kept ka).kept k14)
  have K14 := Lib.hid ((K13.out.trans ka).trans k14)
  clear ka k14 X13 Y13 D13 K13
  go_wp2_with fail
  refine (len_any b' c' 2 _ _ Y14.out).mono ?_
  rintro e w15 ⟨rfl, k15⟩
  have Y15 := Lib.hid (Y14.out.kept k15)
  have D15 := Lib.hid (D14.out.kept k15)
  have K15 := Lib.hid (K14.out.trans k15)
  clear k15 Y14 D14 K14
  go_wp2_with fail
  refine (room_any b' c' 2 _ _ Y15.out).mono ?_
  rintro e w16 ⟨rfl, k16⟩
  have Y16 := Lib.hid (Y15.out.kept k16)
  have D16 := Lib.hid (D15.out.kept k16)
  have K16 := Lib.hid (K15.out.trans k16)
  clear k16 Y15 D15 K15
  go_wp2_with fail
  refine (all_any b' c' 2 _ _ Y16.out).mono ?_
  rintro e w17 ⟨v, rfl, hv, y17, b17⟩
  have Y17 := Lib.hid y17
  have D17 := Lib.hid (D16.out.over Y16.out hdc2 b17)
  have K17 := Lib.hid (But.after K16.out b17 fun i hi h => by omega)
  have V17 := Lib.hid hv.strs
  clear hv y17 b17 Y16 D16 K16
  go_wp2_with fail
  have ka := (Kept.refl w17).alloc (.cells #[.string ⟨#[121]⟩] 9)
  refine (same_any _ _ _ _ _ (V17.out.kept ka) (strs_one w17 ⟨#[121]⟩)).mono ?_
  rintro e w18 ⟨rfl, k18⟩
  have Y18 := Lib.hid ((Y17.out.kept ka).kept k18)
  have D18 := Lib.hid ((D17.out.kept ka).kept k18)
  have K18 := Lib.hid ((K17.out.trans ka).trans k18)
  clear ka k18 Y17 D17 K17 V17
  rw [show (txs [(⟨#[121]⟩ : ByteArray)] == [(⟨#[121]⟩ : ByteArray).data.toList]) = true from rfl]
  go_wp2_with fail
  refine (len_any b' c' 2 _ _ Y18.out).mono ?_
  rintro e w19 ⟨rfl, k19⟩
  have D19 := Lib.hid (D18.out.kept k19)
  have K19 := Lib.hid (K18.out.trans k19)
  clear k19 Y18 D18 K18
  go_wp2_with fail
  refine (all_any d dc 2 _ _ D19.out).mono ?_
  rintro e w20 ⟨v', rfl, hv, d20, b20⟩
  have K20 := Lib.hid (But.after K19.out b20 fun i hi h => by omega)
  have V20 := Lib.hid hv.strs
  clear hv d20 b20 D19 K19
  go_wp2_with fail
  have ka := (Kept.refl w20).alloc (.cells #[.string ⟨#[121]⟩] 9)
  refine (same_any _ _ _ _ _ (V20.out.kept ka) (strs_one w20 ⟨#[121]⟩)).mono ?_
  rintro e w21 ⟨rfl, k21⟩
  have K21 := Lib.hid ((K20.out.trans ka).trans k21)
  clear ka k21 K20 V20
  rw [show (txs [(⟨#[121]⟩ : ByteArray)] == [(⟨#[121]⟩ : ByteArray).data.toList]) = true from rfl]
  go_wp2
  go_ret
  exact ⟨rfl, K21.out⟩
end Go.Proofs.Ytcachpcefeoolaa
