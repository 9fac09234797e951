/-
  The walk of the law EventGets.
-/
import Derived.Test.YtbenjenifklejaaDoorLemarks
import Derived.Test.YtbenjenifklejaaDoorEref7
namespace Go.Proofs.YtbenjenifklejaaDoor
open Go.ChangeShapes Go.WideShapes Go.ChangeAt Go.RowKit

set_option maxHeartbeats 1000000 in
set_option maxRecDepth 100000 in
theorem egets_walk (s : ByteArray) (a : Int) (w : World) (hs : s.size ≤ maxLen) (h1 : -9223372036854775808 ≤ a) (h2 : a ≤ 9223372036854775807) (hT : Tab w) (hP : P10 w) (hF : Fixed) :
    Calls Tryd.prog 4 #[.string s, .int .i64 a] w fun e w' => e = .returned (.bool true) ∧ Kept w w' := by
  unfold maxLen at hs
  have HT := Lib.hid hT
  have HP := Lib.hid hP
  have HF := Lib.hid hF
  clear hT hP hF
  go_enter Tryd.func4, Tryd.ntmps4
  go_wp2_with fail
  have ss := cut_size s 500
  simp only [Int.cast_ofNat_Int] at ss
  generalize s.extract 0 (min (s.size : Int) 500).toNat = S at ss ⊢
  clear hs
  refine (evget_any S a w (by omega) h1 h2 HT.out).mono ?_
  rintro r w1 ⟨rfl, k1⟩
  have hle := Ev.get_le S.data.toList a
  obtain ⟨⟨E, p, e⟩, hg⟩ : ∃ x, x = Ev.get S.data.toList a := ⟨_, rfl⟩
  rw [← hg] at hle ⊢
  have Hg := Lib.hid hg
  obtain ⟨E1, E2, E3, E4, E5⟩ := E
  simp only [tupe, evv]
  clear hg hle
  go_wp2_with fail
  have ka := k1.alloc (.cells #[.int .i64 E1, .int .i64 E2, .string E3, .string E4, .int .i64 E5] 23)
  have ba := Blk.made w1 #[.int .i64 E1, .int .i64 E2, .string E3, .string E4, .int .i64 E5] 23
  refine (rget_any S a _ (by omega) h1 h2).mono ?_
  rintro r w2 ⟨rfl, k2⟩
  rw [← Hg.out]
  simp only [tupe, evv]
  have k02 := ka.trans k2
  have b2 := ba.kept k2
  clear ka ba k1 k2
  go_wp2_with fail
  have ka := k02.alloc (.cells #[.int .i64 E1, .int .i64 E2, .string E3, .string E4, .int .i64 E5] 23)
  have ba := b2.alloc (.cells #[.int .i64 E1, .int .i64 E2, .string E3, .string E4, .int .i64 E5] 23)
  have bb := Blk.made w2 #[.int .i64 E1, .int .i64 E2, .string E3, .string E4, .int .i64 E5] 23
  refine (evcut_any S a _ (by omega) h1 h2 (HT.out.kept ka)).mono ?_
  rintro r w3 ⟨av, cv, rfl, m3, k3⟩
  have k03 := ka.trans k3
  have b3 := ba.kept k3
  have b4 := bb.kept k3
  obtain ⟨⟨M, q, f⟩, hc⟩ : ∃ x, x = Ev.mcut S.data.toList a := ⟨_, rfl⟩
  rw [← hc] at m3 ⊢
  have Hc := Lib.hid hc
  have M3 := Lib.hid m3
  simp only at M3 ⊢
  clear ka ba bb k02 k3 b2 hc m3
  obtain ⟨N, hN⟩ : ∃ N, N = M.length := ⟨_, rfl⟩
  rw [← hN]
  have HN := Lib.hid hN
  clear hN
  go_wp2_with fail
  refine (rcut_any S a w3 (by omega) h1 h2).mono ?_
  rintro r w4 ⟨bv, cw, rfl, m4, k4⟩
  rw [← Hc.out] at m4 ⊢
  simp only at m4 ⊢
  rw [← HN.out]
  have k04 := k03.trans k4
  have b5 := b3.kept k4
  have b6 := b4.kept k4
  have M4 := Lib.hid m4
  have M34 := Lib.hid (M3.out.kept k4)
  have x0 := b5.cell 0
  have x1 := b5.cell 1
  have x2 := b5.cell 2
  have x3 := b5.cell 3
  have x4 := b5.cell 4
  have y0 := b6.cell 0
  have y1 := b6.cell 1
  have y2 := b6.cell 2
  have y3 := b6.cell 3
  have y4 := b6.cell 4
  simp only [List.getElem?_toArray, List.getElem?_cons_zero, List.getElem?_cons_succ] at x0 x1 x2 x3 x4 y0 y1 y2 y3 y4
  have ce := equal_any av bv cv cw M w4 M34.out M4.out
  rw [← HN.out] at ce
  have CE := Lib.hid ce
  clear b3 b4 b5 b6 m4 ce k03 k4
  go_wp2_with fail
  refine CE.out.mono ?_
  rintro r w5 ⟨rfl, k5⟩
  have k05 := k04.trans k5
  go_wp2_with fail
  refine (HF.out _ (HT.out.kept k05) (HP.out.kept k05)).mono ?_
  rintro r w6 ⟨rfl, k6⟩
  go_wp2
  go_ret
  exact ⟨rfl, k05.trans k6⟩
end Go.Proofs.YtbenjenifklejaaDoor
