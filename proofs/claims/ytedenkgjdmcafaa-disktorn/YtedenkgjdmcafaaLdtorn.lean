/-
  The walk of the law DiskTorn.
-/
import Derived.Test.YtedenkgjdmcafaaLdcrashes
import Derived.Test.YtedenkgjdmcafaaDtorn
import Derived.Test.YtedenkgjdmcafaaKslicd
import Derived.IntWalk
namespace Go.Proofs.Ytedenkgjdmcafaa
open Go.ChangeShapes Go.WideShapes Go.ChangeAt Go.RowKit

/-- what stands ahead of each round -/
def Tor (w wr : World) (base b : Nat) (i : Nat) (all kept : ByteArray) : Prop := Kept w wr ∧ all.size ≤ 40 * i ∧ ∃ K v ws, Dsk wr base b K v ws ∧ ws.length ≤ i ∧ Dk.Torn K ws all kept
theorem now_two (K : Dk.Fl) (ws : List Dk.W) (t : ByteArray) (h : Dk.after K ws (Dk.total ws) 2 = t) : (if 0 ≤ (2 : Int) ∧ (2 : Int) < 4 then Dk.after K ws (Dk.total ws) (2 : Int).toNat else ⟨#[]⟩) = t := h

set_option maxHeartbeats 4000000 in
set_option maxRecDepth 100000 in
theorem dtorn_walk (av : Option Addr) (len cap : Nat) (z : Nat → ByteArray) (sy n : Int) (w : World) (hz : StrArg w av len cap z) (_s0 : -9223372036854775808 ≤ sy) (_s1 : sy ≤ 9223372036854775807) (_n0 : -9223372036854775808 ≤ n) (_n1 : n ≤ 9223372036854775807) :
    Calls Try.prog 5 #[.slice av len cap, .int .i64 sy, .int .i64 n] w fun e w' => e = .returned (.bool true) ∧ Kept w w' := by
  have HZ := Lib.hid hz
  have hl1 := hz.1
  have hl2 := hz.2.1
  unfold maxLen at hl2
  clear hz
  have hm := and_mask n 65535 (by decide)
  have hs := and_mask sy 65535 (by decide)
  simp only [Int.cast_ofNat_Int] at hm hs
  obtain ⟨M, hM⟩ : ∃ M : Nat, bits BinOp.and IntKind.i64 n 65535 = (M : Int) := ⟨(bits BinOp.and IntKind.i64 n 65535).toNat, by omega⟩
  obtain ⟨S, hS⟩ : ∃ S : Nat, bits BinOp.and IntKind.i64 sy 65535 = (S : Int) := ⟨(bits BinOp.and IntKind.i64 sy 65535).toNat, by omega⟩
  rw [hM] at hm
  rw [hS] at hs
  obtain ⟨m, hmm⟩ : ∃ m : Nat, min (len : Int) 20 = (m : Int) := ⟨min len 20, by omega⟩
  have hm20 : m ≤ 20 := by omega
  have hml : m ≤ len := by omega
  have HMM := Lib.hid hmm
  go_enter Try.func5, Try.ntmps5
  go_wp2_with fail
  refine (new_disk _).mono ?_
  rintro e w1 ⟨rfl, x1, k1⟩
  obtain ⟨base, hbase⟩ : ∃ base, base = w.heap.size := ⟨_, rfl⟩
  rw [← hbase] at x1 ⊢
  obtain ⟨b, hb⟩ : ∃ b, b = base := ⟨_, rfl⟩
  have x1 : Dsk w1 base b dk0 (.slice none 0 0) [] := by rw [hb]; exact x1
  rw [show (Value.pointer (some ⟨base, 0, none⟩)) = .pointer (some ⟨b, 0, none⟩) by rw [hb]]
  have HB : Hid (w.heap.size ≤ base) := by show _ ≤ _; omega
  have T0 : Hid (Tor w w1 base b 0 ⟨#[]⟩ ⟨#[]⟩) := ⟨k1, Nat.zero_le _, _, _, _, x1, Nat.zero_le _, rfl, rfl, fun n => by simp [Dk.after, Dk.total, dk0]⟩
  clear x1 k1 hb hbase
  go_wp2
  obtain ⟨A, hA⟩ : ∃ A : Nat, (S : Int) % ((m : Int) + 1) = (A : Int) := ⟨S % (m + 1), (Int.natCast_emod S (m + 1)).symm⟩
  rw [hA]
  have hAm : A ≤ m := by
    have := Int.emod_lt_of_pos (S : Int) (show 0 < (m : Int) + 1 by omega)
    rw [hA] at this
    omega
  clear hA hS hmm HMM hs
  have HM := Lib.hid hM
  clear hM
  go_loopw [8, 9, 12] (fun a c i wr => ∃ (k : Nat) (all kept : ByteArray), k ≤ m ∧ a = .string all ∧ c = .string kept ∧ i = .int .i64 k ∧ Hid (Tor w wr base b k all kept)) (fun _ _ i _ => m - (intOf i).toNat)
  case atStart => exact ⟨0, ⟨#[]⟩, ⟨#[]⟩, Nat.zero_le _, rfl, rfl, rfl, T0⟩
  case round =>
    obtain ⟨k, all, kept, hk, rfl, rfl, rfl, HR⟩ := hrel
    by_cases hlt : k < m
    · obtain ⟨kr, hall, K, v, ws, x, hwl, tn⟩ := HR.out
      have X := Lib.hid x
      have KR := Lib.hid kr
      have TN := Lib.hid tn
      clear x kr tn HR T0
      by_cases hkA : k = A
      · subst hkA
        go_wp2_with fail
        refine (sync_is _ X.out rfl).mono ?_
        rintro e w2 ⟨rfl, x, f⟩
        have KR' := Lib.hid (X.out.still HB.out KR.out f)
        have TN' := Lib.hid TN.out.sync
        clear f X KR TN hwl
        have X := Lib.hid x
        have KR := KR'
        have TN := TN'
        clear x KR' TN'
        generalize Dk.after K ws (Dk.total ws) = K' at X TN
        have hwl : ([] : List Dk.W).length ≤ k := Nat.zero_le _
        generalize ([] : List Dk.W) = ws at X TN hwl
        generalize Value.slice none 0 0 = v at X
        clear K
        rename_i K
        generalize hZ : z k = Z
        have hz0 := hZ
        clear hZ
        obtain ⟨B, off, rfl, hB, hc0, hZm⟩ : ∃ B off, av = some ⟨B, off, none⟩ ∧ B < w.heap.size ∧ w.cell? ⟨B, off + k, none⟩ = some (.string Z) ∧ Z.size ≤ 9223372036854775807 := by
          obtain ⟨_, _, h3, h4⟩ := HZ.out
          rcases h4 with h4 | ⟨B, off, rfl, hB, hc⟩
          · omega
          · exact ⟨B, off, rfl, hB, by rw [← hz0]; exact hc k (by omega), by have := h3 k; rw [hz0] at this; unfold maxLen at this; omega⟩
        have d0 := (Below.cell KR.out (p := ⟨B, off + k, none⟩) hB).trans hc0
        have a1 : 0 ≤ min (Z.size : Int) 40 := by omega
        have a2 : min (Z.size : Int) 40 ≤ (Z.size : Int) := by omega
        have sz : (Z.extract 0 (min (Z.size : Int) 40).toNat).size ≤ 40 := by rw [ByteArray.size_extract]; omega
        have hk1 : k < len := by omega
        clear hz0 hc0
        go_wp2_with fail
        go_quiet (fail)
        generalize Z.extract 0 (min (Z.size : Int) 40).toNat = C at sz ⊢
        have X2 := Lib.hid (X.out.kept (below_drewN (Kept.refl _) nq))
        have K2 := Lib.hid (below_drewN KR.out nq)
        clear d0 X KR a1 a2 hZm
        go_wp2_with fail
        refine (append_is 2 C 0 (Dk.more ws ⟨2, C, false⟩) _ X2.out (by omega) (by omega) (by
          unfold Dk.ansA
          rw [if_pos (by decide), show (2 : Int).toNat = 2 from rfl, TN.out.now, if_pos (by omega)]) rfl).mono ?_
        rintro e w4 ⟨rfl, v4, x, _, f⟩
        have T4 : Hid (Tor w w4 base b (k + 1) (all ++ C) all) := ⟨X2.out.still HB.out K2.out f, by rw [ByteArray.size_append]; omega, _, _, _, x, Nat.le_trans (Dk.more_len _ _) (by omega), TN.out.add C⟩
        clear x f X2 K2 TN
        have hov : ¬ (9223372036854775807 < all.size + C.size) := by omega
        go_wp2
        go_roundw
        case rel => exact ⟨k + 1, all ++ C, all, by omega, rfl, rfl, by go_num, T4.out⟩
        case measure => simp [intOf]; omega
      · have eA : ((k : Int) == (A : Int)) = false := by rw [beq_eq_false_iff_ne]; omega
        generalize hZ : z k = Z
        have hz0 := hZ
        clear hZ
        obtain ⟨B, off, rfl, hB, hc0, hZm⟩ : ∃ B off, av = some ⟨B, off, none⟩ ∧ B < w.heap.size ∧ w.cell? ⟨B, off + k, none⟩ = some (.string Z) ∧ Z.size ≤ 9223372036854775807 := by
          obtain ⟨_, _, h3, h4⟩ := HZ.out
          rcases h4 with h4 | ⟨B, off, rfl, hB, hc⟩
          · omega
          · exact ⟨B, off, rfl, hB, by rw [← hz0]; exact hc k (by omega), by have := h3 k; rw [hz0] at this; unfold maxLen at this; omega⟩
        have d0 := (Below.cell KR.out (p := ⟨B, off + k, none⟩) hB).trans hc0
        have a1 : 0 ≤ min (Z.size : Int) 40 := by omega
        have a2 : min (Z.size : Int) 40 ≤ (Z.size : Int) := by omega
        have sz : (Z.extract 0 (min (Z.size : Int) 40).toNat).size ≤ 40 := by rw [ByteArray.size_extract]; omega
        have hk1 : k < len := by omega
        clear hz0 hc0
        go_wp2_with fail
        go_quiet (fail)
        generalize Z.extract 0 (min (Z.size : Int) 40).toNat = C at sz ⊢
        have X2 := Lib.hid (X.out.kept (below_drewN (Kept.refl _) nq))
        have K2 := Lib.hid (below_drewN KR.out nq)
        clear d0 X KR a1 a2 hZm
        go_wp2_with fail
        refine (append_is 2 C 0 (Dk.more ws ⟨2, C, false⟩) _ X2.out (by omega) (by omega) (by
          unfold Dk.ansA
          rw [if_pos (by decide), show (2 : Int).toNat = 2 from rfl, TN.out.now, if_pos (by omega)]) rfl).mono ?_
        rintro e w4 ⟨rfl, v4, x, _, f⟩
        have T4 : Hid (Tor w w4 base b (k + 1) (all ++ C) kept) := ⟨X2.out.still HB.out K2.out f, by rw [ByteArray.size_append]; omega, _, _, _, x, Nat.le_trans (Dk.more_len _ _) (by omega), TN.out.add C⟩
        clear x f X2 K2 TN
        have hov : ¬ (9223372036854775807 < all.size + C.size) := by omega
        go_wp2
        go_roundw
        case rel => exact ⟨k + 1, all ++ C, kept, by omega, rfl, rfl, by go_num, T4.out⟩
        case measure => simp [intOf]; omega
    · have hkm : k = m := by omega
      subst hkm
      generalize hEA : ((A : Int) == (k : Int)) = EA
      go_upto_if 57 with (fail)
      go_cut [9] (fun c wx => ∃ kept' : ByteArray, c = .string kept' ∧ Hid (Tor w wx base b k all kept'))
      case first =>
        by_cases hkA : A = k
        · obtain rfl : EA = true := by rw [← hEA, hkA]; simp
          clear hEA
          subst hkA
          obtain ⟨kr, hall, K, v, ws, x, hwl, tn⟩ := HR.out
          have X := Lib.hid x
          have KR := Lib.hid kr
          have TN := Lib.hid tn
          clear x kr tn HR T0 HZ
          go_wp2_with fail
          refine (sync_is _ X.out rfl).mono ?_
          rintro e w2 ⟨rfl, x, f⟩
          have T2 : Hid (Tor w w2 base b A all all) := ⟨X.out.still HB.out KR.out f, hall, _, _, _, x, Nat.zero_le _, TN.out.sync⟩
          clear x f X KR TN
          go_wp2_with fail
          go_meet
          case rel => exact ⟨all, rfl, T2⟩
        · obtain rfl : EA = false := by rw [← hEA, beq_eq_false_iff_ne]; omega
          clear hEA
          go_wp2_with fail
          go_meet
          case rel => exact ⟨kept, rfl, HR⟩
      case rest =>
        clear hEA EA
        obtain ⟨kp, rfl, HR2⟩ := hcut
        obtain ⟨kr, hall, K, v, ws, x, hwl, tn⟩ := HR2.out
        have X := Lib.hid x
        have KR := Lib.hid kr
        have TN := Lib.hid tn
        clear x kr tn HR HR2 T0 HZ
        have HT : Hid (all.size = kp.size + Dk.total ws) := TN.out.size
        have hge1 : kp.size + Dk.total ws ≤ all.size := by have := HT.out; omega
        have hge2 : all.size ≤ kp.size + Dk.total ws := by have := HT.out; omega
        have htot : Dk.total ws ≤ 800 := by omega
        have e0 : (all.size : Int) - (kp.size : Int) + 1 = ((Dk.total ws + 1 : Nat) : Int) := by omega
        obtain ⟨q, hq⟩ : ∃ q : Nat, (M : Int) % ((all.size : Int) - (kp.size : Int) + 1) = (q : Int) := ⟨M % (Dk.total ws + 1), by rw [e0]; exact (Int.natCast_emod M (Dk.total ws + 1)).symm⟩
        have hq1 : q ≤ Dk.total ws := by
          have := Int.emod_lt_of_pos (M : Int) (show 0 < (all.size : Int) - (kp.size : Int) + 1 by omega)
          rw [hq] at this
          omega
        have e1 : (0 : Int) ≤ (all.size : Int) - (kp.size : Int) := by omega
        clear e0
        rw [← Int.tmod_eq_emod_of_nonneg (by omega)] at hq
        have HQ := Lib.hid hq
        clear hq
        go_wp2_with fail
        rw [HM.out, HQ.out]
        have g1 : IntKind.i64.wrap ((all.size : Int) - (kp.size : Int)) = (all.size : Int) - (kp.size : Int) := IntWalk.i64_in _ (by omega)
        have g2 : IntKind.i64.wrap ((kp.size : Int) + (q : Int)) = (kp.size : Int) + (q : Int) := IntWalk.i64_in _ (by omega)
        have g3 : ((kp.size : Int) + (q : Int)).toNat = kp.size + q := by omega
        have g4 : (0 : Int) ≤ (kp.size : Int) + (q : Int) := by omega
        have g5 : (kp.size : Int) + (q : Int) ≤ (all.size : Int) := by omega
        have FK := Lib.hid (fun w' (y : Kept wc w') => kept_is 2 kp w' (X.out.kept y) (show _ = _ from TN.out.k))
        have FR := Lib.hid (fun w' (y : Kept wc w') => read_is 2 all w' (X.out.kept y) (now_two K ws all TN.out.now))
        have FU := Lib.hid (fun w' (y : Kept wc w') => units_is ((all.size : Int) - (kp.size : Int)) w' (X.out.kept y) (by omega))
        have FC := Lib.hid (fun w' (y : Kept wc w') => crash_is (K' := Dk.after K ws q) (q : Int) (q : Int) w' (X.out.kept y) (by omega) (by omega) (by rw [Int.toNat_natCast, Nat.min_eq_left hq1]) (by rw [Int.toNat_natCast]))
        have CUT : Hid (Dk.after K ws q 2 = all.extract 0 (kp.size + q)) := by
          show _ = _
          rw [TN.out.cut, Nat.min_eq_left hq1]
        go_region_held3 (fun _ => True) (trivial)
          (first
            | (go_at_call 20; ((with_reducible refine (FK.out _ (Kept.drew (Kept.refl _))).mono ?_); rintro e r1 ⟨rfl, k⟩; have q1 := (Kept.drew (Kept.refl wc)).trans k))
            | (go_at_call 18; ((with_reducible refine (FR.out _ q1).mono ?_); rintro e r2 ⟨rfl, k⟩; have q2 := q1.trans k))
            | (go_at_call 16; ((with_reducible refine (FU.out _ q2).mono ?_); rintro e r3 ⟨rfl, k⟩; have q3 := q2.trans k))
            | (go_at_call 23; ((with_reducible refine (FC.out _ q3).mono ?_); rintro e r4 ⟨rfl, x4, f4⟩; have q4 := (X.out.kept q3).still HB.out (KR.out.trans q3) f4; have rd := read_is 2 (all.extract 0 (kp.size + q)) r4 x4 CUT.out))
            | (go_at_call 18; ((with_reducible refine rd.mono ?_); rintro e r5 ⟨rfl, k⟩; have q5 := q4.trans k))
            | (go_at_call 22; refine (fix_any _).mono ?_; rintro e r6 ⟨rfl, k⟩; have q6 := q5.trans k))
        have Q6 := Lib.hid q6
        clear q1 q2 q3 q4 q5 q6 rd x4 f4 FK FR FU FC
        go_wp2
        go_ret
        exact ⟨rfl, Q6.out⟩
end Go.Proofs.Ytedenkgjdmcafaa
