/-
  The walk of the law WalOpens.
-/
import Derived.Test.YtenhncohhikllaaDoorWsame
namespace Go.Proofs.YtenhncohhikllaaDoor
open Go.ChangeShapes Go.WideShapes Go.ChangeAt Go.RowKit

theorem cut400 (s : ByteArray) : (s.extract 0 (min (s.size : Int) 400).toNat).size ≤ 400 := by
  rw [ByteArray.size_extract]; omega

set_option maxHeartbeats 4000000 in
set_option maxRecDepth 100000 in
theorem wopens_walk (s t : ByteArray) (w : World) (hs : s.size ≤ maxLen) (ht : t.size ≤ maxLen) (hT : Tab w) :
    Calls Tryd.prog 4 #[.string s, .string t] w fun e w' => e = .returned (.bool true) ∧ Kept w w' := by
  unfold maxLen at hs ht
  have mb1 : 0 ≤ min (s.size : Int) 400 := by omega
  have mb2 : min (s.size : Int) 400 ≤ (s.size : Int) := by omega
  have mb3 : 0 ≤ min (t.size : Int) 400 := by omega
  have mb4 : min (t.size : Int) 400 ≤ (t.size : Int) := by omega
  have HT := Lib.hid hT
  have hc1 := cut400 s
  have hc2 := cut400 t
  clear hT
  go_enter Tryd.func4, Tryd.ntmps4
  go_wp2_with fail
  generalize s.extract 0 (min (s.size : Int) 400).toNat = S at hc1 ⊢
  generalize t.extract 0 (min (t.size : Int) 400).toNat = T at hc2 ⊢
  refine (new_disk _).mono ?_
  rintro e w1 ⟨rfl, x1, k1⟩
  obtain ⟨base, hbase⟩ : ∃ base, base = w.heap.size := ⟨_, rfl⟩
  rw [← hbase] at x1 ⊢
  obtain ⟨d, hd⟩ : ∃ d, d = base := ⟨_, rfl⟩
  have x1 : Dsk w1 base d (fun _ => ⟨#[]⟩) (.slice none 0 0) [] := by rw [hd]; exact x1
  rw [show (Value.pointer (some ⟨base, 0, none⟩)) = .pointer (some ⟨d, 0, none⟩) by rw [hd]]
  have HB : Hid (w.heap.size ≤ base) := by show _ ≤ _; omega
  have ka : Kept w1 (w1.alloc (.cells (rcells (fun _ => ⟨#[]⟩) (.slice none 0 0)) 30)) := (Kept.refl w1).alloc _
  have X2 := Lib.hid (x1.kept ka)
  have K2 := Lib.hid (k1.trans ka)
  have Y2 : Hid (RD (w1.alloc (.cells (rcells (fun _ => ⟨#[]⟩) (.slice none 0 0)) 30)) base w1.heap.size (fun _ => ⟨#[]⟩) (.slice none 0 0) []) := Lib.hid ((rd_new w1).mono (by rw [hbase]; exact k1.size))
  clear x1 k1 hd hbase ka mb1 mb2 mb3 mb4 hs ht
  have er : rcells (fun _ => ⟨#[]⟩) (.slice none 0 0) = #[.string ⟨#[]⟩, .string ⟨#[]⟩, .string ⟨#[]⟩, .string ⟨#[]⟩, .slice none 0 0] := rfl
  rw [er] at X2 K2 Y2
  clear er
  generalize hrd : w1.heap.size = rd at Y2
  go_wp2_with fail
  clear hrd
  generalize w1.alloc (.cells #[.string ⟨#[]⟩, .string ⟨#[]⟩, .string ⟨#[]⟩, .string ⟨#[]⟩, .slice none 0 0] 30) = w2 at X2 K2 Y2 ⊢
  refine (replace_is 0 S 0 [⟨0, S, true⟩] w2 X2.out (by simp) (by unfold maxLen; omega) (by unfold Dk.ansR; rw [if_pos (by decide), if_pos (by omega)]) (by rw [if_pos rfl, more_whole]; rfl)).mono ?_
  rintro e w3 ⟨rfl, v3, x3, _, f⟩
  have X3 := Lib.hid x3
  have K3 := Lib.hid (X2.out.still HB.out K2.out f)
  have Y3 := Lib.hid (Y2.out.aside X2.out f)
  clear x3 f X2 K2 Y2
  go_wp2_with fail
  refine (replace_is 1 T 0 [⟨0, S, true⟩, ⟨1, T, true⟩] w3 X3.out (by simp) (by unfold maxLen; omega) (by unfold Dk.ansR; rw [if_pos (by decide), if_pos (by omega)]) (by rw [if_pos rfl, more_whole]; rfl)).mono ?_
  rintro e w4 ⟨rfl, v4, x4, _, f⟩
  have X4 := Lib.hid x4
  have K4 := Lib.hid (X3.out.still HB.out K3.out f)
  have Y4 := Lib.hid (Y3.out.aside X3.out f)
  clear x4 f X3 K3 Y3
  go_wp2_with fail
  refine (rrep_ok 0 S w4 Y4.out (by simp) (by omega) (by decide)).mono ?_
  rintro e w5 ⟨rfl, v5, y5, _, f⟩
  have Y5 := Lib.hid y5
  have K5 := Lib.hid (Y4.out.still HB.out K4.out f)
  have X5 := Lib.hid (X4.out.by Y4.out f)
  clear y5 f X4 K4 Y4
  go_wp2_with fail
  refine (rrep_ok 1 T w5 Y5.out (by decide) (by omega) (by simp)).mono ?_
  rintro e w6 ⟨rfl, v6, y6, _, f⟩
  have Y6 : Hid (RD w6 base rd (fun _ => ⟨#[]⟩) v6 [⟨0, S, true⟩, ⟨1, T, true⟩]) := Lib.hid y6
  have K6 := Lib.hid (Y5.out.still HB.out K5.out f)
  have X6 := Lib.hid (X5.out.by Y5.out f)
  clear y6 f X5 K5 Y5
  generalize hws : ([⟨0, S, true⟩, ⟨1, T, true⟩] : List Dk.W) = ws at X6 Y6
  have hwl : ws.length < 1000000 := by rw [← hws]; simp
  clear hws
  generalize (fun _ => ⟨#[]⟩ : Dk.Fl) = K at X6 Y6
  obtain ⟨F0, hF0⟩ : ∃ F, F = nowF K ws 0 := ⟨_, rfl⟩
  obtain ⟨F1, hF1⟩ : ∃ F, F = nowF K ws 1 := ⟨_, rfl⟩
  obtain ⟨TT, hTT⟩ : ∃ T, T = Dk.total ws := ⟨_, rfl⟩
  have HF0 := Lib.hid hF0
  have HF1 := Lib.hid hF1
  have HTT := Lib.hid hTT
  clear hF0 hF1 hTT
  by_cases he : (Wg.head (nowF K ws 0).data.toList).2.2 = 0
  · have He := Lib.hid he
    clear he
    go_wp2_with fail
    refine (logopen_any w6 X6.out hwl HT.out HB.out K6.out He.out).mono ?_
    rintro e w7 ⟨b, lv, rfl, x7, _, _, f⟩
    have X7 := Lib.hid x7
    have K7 := Lib.hid (X6.out.still HB.out K6.out f)
    have Y7 := Lib.hid (Y6.out.aside X6.out f)
    clear x7 f X6 K6 Y6
    go_wp2_with fail
    refine (rlopen_any w7 Y7.out hwl He.out).mono ?_
    rintro e w8 ⟨rb, rlv, rfl, y8, _, hlm, f⟩
    have Y8 := Lib.hid y8
    have K8 := Lib.hid (Y7.out.still HB.out K7.out f)
    have X8 := Lib.hid (X7.out.by Y7.out f)
    clear y8 f X7 K7 Y7 hlm He HF0 HF1 HTT F0 F1 TT
    generalize Wg.opened (nowF K ws) = O at X8 Y8
    generalize Wg.told (nowF K ws) = x at X8 Y8
    obtain ⟨F0, hF0⟩ : ∃ F, F = O 0 := ⟨_, rfl⟩
    obtain ⟨F1, hF1⟩ : ∃ F, F = O 1 := ⟨_, rfl⟩
    have HF0 := Lib.hid hF0
    have HF1 := Lib.hid hF1
    have t0 := str_ne_self F0
    have t1 := str_ne_self F1
    clear hF0 hF1
    go_wp2_with fail
    refine (read_is 0 F0 w8 X8.out.dsk (by rw [if_pos (by decide), HF0.out]; rfl)).mono ?_
    rintro e w9 ⟨rfl, k⟩
    have X9 := Lib.hid (X8.out.kept k)
    have Y9 := Lib.hid (Y8.out.kept k)
    have K9 := Lib.hid (K8.out.trans k)
    clear k X8 Y8 K8
    go_wp2_with fail
    refine (rread_is 0 F0 w9 Y9.out.dsk (by rw [if_pos (by decide), HF0.out]; rfl)).mono ?_
    rintro e w10 ⟨rfl, k⟩
    have X10 := Lib.hid (X9.out.kept k)
    have Y10 := Lib.hid (Y9.out.kept k)
    have K10 := Lib.hid (K9.out.trans k)
    clear k X9 Y9 K9
    go_wp2_with fail
    refine (read_is 1 F1 w10 X10.out.dsk (by rw [if_pos (by decide), HF1.out]; rfl)).mono ?_
    rintro e w11 ⟨rfl, k⟩
    have X11 := Lib.hid (X10.out.kept k)
    have Y11 := Lib.hid (Y10.out.kept k)
    have K11 := Lib.hid (K10.out.trans k)
    clear k X10 Y10 K10
    go_wp2_with fail
    refine (rread_is 1 F1 w11 Y11.out.dsk (by rw [if_pos (by decide), HF1.out]; rfl)).mono ?_
    rintro e w12 ⟨rfl, k⟩
    have X12 := Lib.hid (X11.out.kept k)
    have Y12 := Lib.hid (Y11.out.kept k)
    have K12 := Lib.hid (K11.out.trans k)
    clear k X11 Y11 K11
    go_wp2_with fail
    refine (units_is 0 w12 X12.out.dsk rfl).mono ?_
    rintro e w13 ⟨rfl, k⟩
    have X13 := Lib.hid (X12.out.kept k)
    have Y13 := Lib.hid (Y12.out.kept k)
    have K13 := Lib.hid (K12.out.trans k)
    clear k X12 Y12 K12
    go_wp2_with fail
    refine (runits_is 0 w13 Y13.out.dsk rfl).mono ?_
    rintro e w14 ⟨rfl, k⟩
    have X14 := Lib.hid (X13.out.kept k)
    have Y14 := Lib.hid (Y13.out.kept k)
    have K14 := Lib.hid (K13.out.trans k)
    clear k X13 Y13 K13
    go_wp2_with fail
    refine (wsame_any w14 X14.out Y14.out).mono ?_
    rintro e w15 ⟨rfl, k⟩
    have K15 := Lib.hid (K14.out.trans k)
    clear k X14 Y14 K14
    go_wp2_with fail
    refine (fix_any w15 (HT.out.kept K15.out)).mono ?_
    rintro e w16 ⟨rfl, k⟩
    go_wp2
    go_ret
    exact ⟨rfl, K15.out.trans k⟩
  · obtain ⟨E, hE⟩ : ∃ E, E = (Wg.head (nowF K ws 0).data.toList).2.2 := ⟨_, rfl⟩
    have C1 := Lib.hid (logopen_bad w6 X6.out HT.out K6.out he)
    have C2 := Lib.hid fun w' (y : RD w' base rd K v6 ws) => rlopen_bad w' y he
    rw [← hE] at C1 C2
    have t0 := str_ne_self F0
    have t1 := str_ne_self F1
    have t2 := dec_ne E
    have t3 := dec_ne TT
    clear hE he
    go_wp2_with fail
    refine C1.out.mono ?_
    rintro e w7 ⟨rfl, k⟩
    have X7 := Lib.hid (X6.out.kept k)
    have Y7 := Lib.hid (Y6.out.kept k)
    have K7 := Lib.hid (K6.out.trans k)
    clear k X6 Y6 K6
    go_wp2_with fail
    refine (C2.out w7 Y7.out).mono ?_
    rintro e w8 ⟨rfl, k⟩
    have X8 := Lib.hid (X7.out.kept k)
    have Y8 := Lib.hid (Y7.out.kept k)
    have K8 := Lib.hid (K7.out.trans k)
    clear k X7 Y7 K7
    go_wp2_with fail
    refine (read_is 0 F0 w8 X8.out (by rw [if_pos (by decide), HF0.out]; rfl)).mono ?_
    rintro e w9 ⟨rfl, k⟩
    have X9 := Lib.hid (X8.out.kept k)
    have Y9 := Lib.hid (Y8.out.kept k)
    have K9 := Lib.hid (K8.out.trans k)
    clear k X8 Y8 K8
    go_wp2_with fail
    refine (rread_is 0 F0 w9 Y9.out (by rw [if_pos (by decide), HF0.out]; rfl)).mono ?_
    rintro e w10 ⟨rfl, k⟩
    have X10 := Lib.hid (X9.out.kept k)
    have Y10 := Lib.hid (Y9.out.kept k)
    have K10 := Lib.hid (K9.out.trans k)
    clear k X9 Y9 K9
    go_wp2_with fail
    refine (read_is 1 F1 w10 X10.out (by rw [if_pos (by decide), HF1.out]; rfl)).mono ?_
    rintro e w11 ⟨rfl, k⟩
    have X11 := Lib.hid (X10.out.kept k)
    have Y11 := Lib.hid (Y10.out.kept k)
    have K11 := Lib.hid (K10.out.trans k)
    clear k X10 Y10 K10
    go_wp2_with fail
    refine (rread_is 1 F1 w11 Y11.out (by rw [if_pos (by decide), HF1.out]; rfl)).mono ?_
    rintro e w12 ⟨rfl, k⟩
    have X12 := Lib.hid (X11.out.kept k)
    have Y12 := Lib.hid (Y11.out.kept k)
    have K12 := Lib.hid (K11.out.trans k)
    clear k X11 Y11 K11
    go_wp2_with fail
    refine (units_is (TT : Int) w12 X12.out (by rw [HTT.out])).mono ?_
    rintro e w13 ⟨rfl, k⟩
    have Y13 := Lib.hid (Y12.out.kept k)
    have K13 := Lib.hid (K12.out.trans k)
    clear k X12 Y12 K12
    go_wp2_with fail
    refine (runits_is (TT : Int) w13 Y13.out (by rw [HTT.out])).mono ?_
    rintro e w14 ⟨rfl, k⟩
    have K14 := Lib.hid (K13.out.trans k)
    clear k Y13 K13
    go_wp2_with fail
    refine (fix_any w14 (HT.out.kept K14.out)).mono ?_
    rintro e w15 ⟨rfl, k⟩
    go_wp2
    go_ret
    exact ⟨rfl, K14.out.trans k⟩
end Go.Proofs.YtenhncohhikllaaDoor
