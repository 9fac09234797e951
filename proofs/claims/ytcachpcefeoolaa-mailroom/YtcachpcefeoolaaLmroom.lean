/-
  The walk of the law MailRoom.
-/
import Derived.Test.YtcachpcefeoolaaMfix
import Derived.Test.YtcachpcefeoolaaMops
import Derived.Test.YtcachpcefeoolaaVbits
namespace Go.Proofs.Ytcachpcefeoolaa
open Go.ChangeShapes Go.WideShapes Go.ChangeAt Go.RowKit

set_option maxHeartbeats 2000000 in
set_option maxRecDepth 100000 in
theorem mroom_walk (size : Int) (av : Option Addr) (len cap : Nat) (z : Nat → OpV) (w : World) (_s0 : -9223372036854775808 ≤ size) (_s1 : size ≤ 9223372036854775807) (hz : OpArg w av len cap z) :
    Calls Try.prog 8 #[.int .i64 size, .slice av len cap] w fun e w' => e = .returned (.bool true) ∧ Kept w w' := by
  have hm := and_mask size 15 (by decide)
  simp only [Int.cast_ofNat_Int] at hm
  obtain ⟨M, hM⟩ : ∃ M : Nat, bits BinOp.and IntKind.i64 size 15 = (M : Int) := ⟨(bits BinOp.and IntKind.i64 size 15).toNat, by omega⟩
  rw [hM] at hm
  have HZ := Lib.hid hz
  have hl1 := hz.1
  have hl2 := hz.2.1
  clear hz
  go_enter Try.func8, Try.ntmps8
  go_wp2_with fail
  obtain ⟨N, hN⟩ : ∃ N : Nat, 1 + (M : Int) = (N : Int) := ⟨M + 1, by omega⟩
  rw [hN]
  refine (new_ok N w (by omega) (by omega)).mono ?_
  rintro e w1 ⟨b, c, rfl, hb, hc, x1, k1⟩
  have hN16 : N ≤ 16 := by omega
  clear hN hM hm
  have X1 := Lib.hid x1
  have K1 := Lib.hid k1
  clear x1 k1
  go_wp2
  go_loopw [8] (fun i wr => ∃ (k : Nat) (l : List ByteArray), k ≤ len ∧ k ≤ 60 ∧ i = .int .i64 k ∧ Bx wr b c N l ∧ Kept w wr) (fun i _ => 60 - (intOf i).toNat)
  case atStart => exact ⟨0, [], Nat.zero_le _, Nat.zero_le _, rfl, X1.out, K1.out⟩
  case round =>
    obtain ⟨k, l, hk, hk60, rfl, hx, hkr⟩ := hrel
    have X := Lib.hid hx
    have K := Lib.hid hkr
    clear hx hkr
    by_cases hlt : k < len ∧ k < 60
    · obtain ⟨hlt1, hlt2⟩ := hlt
      obtain ⟨B, off, rfl, hB, c0, c1, c2, hs⟩ := HZ.out.at hlt1
      have d0 := (Below.cell K.out (p := ⟨B, off + k * 3, none⟩) hB).trans c0
      have d1 := (Below.cell K.out (p := ⟨B, off + k * 3 + 1, none⟩) hB).trans c1
      clear c0 c2
      generalize (z k).kind = kd at d0
      generalize (z k).s = S at d1 hs c1
      by_cases hkd : kd = 1
      · have e1 : (kd == 1) = true := by simpa using hkd
        go_wp2_with fail
        refine (first_any b c N l _ X.out).mono ?_
        rintro e w2 ⟨rfl, x2, b2⟩
        have X2 := Lib.hid x2
        have K2 := Lib.hid (But.after K.out b2 fun i hi h => by omega)
        clear x2 b2 X K
        have ht : tells l = .tuple #[.string (hd l), .bool (decide (0 < l.length))] := rfl
        have HT := Lib.hid ht
        rw [ht]
        clear ht
        generalize hd l = p at HT ⊢
        generalize decide (0 < l.length) = q at HT ⊢
        go_wp2_with fail
        refine (take_any b c N l _ X2.out).mono ?_
        rintro e w3 ⟨rfl, x3, b3⟩
        have X3 := Lib.hid x3
        have K3 := Lib.hid (But.after K2.out b3 fun i hi h => by omega)
        clear x3 b3 X2 K2
        rw [HT.out]
        generalize l.tail = l' at X3
        go_wp2_with fail
        refine (len_any b c N l' _ X3.out).mono ?_
        rintro e w4 ⟨rfl, k4⟩
        have X4 := Lib.hid (X3.out.kept k4)
        have K4 := Lib.hid (K3.out.trans k4)
        clear k4 X3 K3
        go_wp2_with fail
        refine (room_any b c N l' _ X4.out).mono ?_
        rintro e w5 ⟨rfl, k5⟩
        have X5 := Lib.hid (X4.out.kept k5)
        have K5 := Lib.hid (K4.out.trans k5)
        clear k5 X4 K4
        have hf := X5.out.few
        have q1 : (((l').length : Int) + ((N : Int) - ((l').length : Int)) == (N : Int)) = true := by rw [beq_iff_eq]; omega
        have q2 : (((l').length : Int) + ((N : Int) - ((l').length : Int)) != (N : Int)) = false := by simp only [bne, q1]; rfl
        have q3 : ¬ (((l').length : Int) < 0) := by omega
        have q4 : ¬ ((N : Int) - ((l').length : Int) < 0) := by omega
        go_wp2_with fail
        refine (len_any b c N l' _ X5.out).mono ?_
        rintro e w6 ⟨rfl, k6⟩
        have X6 := Lib.hid (X5.out.kept k6)
        have K6 := Lib.hid (K5.out.trans k6)
        clear k6 X5 K5
        go_wp2_with fail
        refine (room_any b c N l' _ X6.out).mono ?_
        rintro e w7 ⟨rfl, k7⟩
        have X7 := Lib.hid (X6.out.kept k7)
        have K7 := Lib.hid (K6.out.trans k7)
        clear k7 X6 K6
        go_wp2
        go_roundw
        case rel => exact ⟨k + 1, l', by omega, by omega, by go_num, X7.out, K7.out⟩
        case measure => simp [intOf]; omega
      · have e1 : (kd == 1) = false := by simpa using hkd
        have C1 := Lib.hid c1
        clear c1
        have mb1 : 0 ≤ min (S.size : Int) 40 := by omega
        have mb2 : min (S.size : Int) 40 ≤ (S.size : Int) := by omega
        have sb : (S.extract 0 (min (S.size : Int) 40).toNat).size ≤ 40 := by rw [ByteArray.size_extract]; omega
        by_cases hfull : l.length < N
        · have r0 : ((N : Int) - (l.length : Int) == 0) = false := by rw [beq_eq_false_iff_ne]; omega
          go_wp2_with fail
          refine (room_any b c N l _ X.out).mono ?_
          rintro e w2 ⟨rfl, k2⟩
          have X2 := Lib.hid (X.out.kept k2)
          have K2 := Lib.hid (K.out.trans k2)
          clear k2 X K
          go_wp2_with fail
          have c2 := (Below.cell K2.out (p := ⟨B, off + k * 3 + 1, none⟩) hB).trans C1.out
          generalize hE : S.extract 0 (min (S.size : Int) 40).toNat = E at sb
          go_region_held3 (fun w' => w'.cell? ⟨B, off + k * 3 + 1, none⟩ = some (.string S))
            (first | exact c2 | exact c3)
            (first
              | (go_at_call 11; refine (put_room b c N l E _ (X2.out.kept (Kept.drew (Kept.refl w2))) (by omega) hfull).mono ?_
                 rintro e w3 ⟨rfl, x3, b3⟩; have k3 : Kept w w3 := But.after (K2.out.trans (Kept.drew (Kept.refl w2))) b3 (fun i hi h => by omega)
                 have c3 : w3.cell? ⟨B, off + k * 3 + 1, none⟩ = some (.string S) := (Below.cell k3 (p := ⟨B, off + k * 3 + 1, none⟩) hB).trans C1.out))
          have X3 := Lib.hid x3
          have K3 := Lib.hid k3
          clear x3 k3 c2 c3 X2 K2
          go_wp2_with fail
          refine (len_any b c N (l ++ [E]) _ X3.out).mono ?_
          rintro e w4 ⟨rfl, k4⟩
          have X4 := Lib.hid (X3.out.kept k4)
          have K4 := Lib.hid (K3.out.trans k4)
          clear k4 X3 K3
          go_wp2_with fail
          refine (room_any b c N (l ++ [E]) _ X4.out).mono ?_
          rintro e w5 ⟨rfl, k5⟩
          have X5 := Lib.hid (X4.out.kept k5)
          have K5 := Lib.hid (K4.out.trans k5)
          clear k5 X4 K4
          have hf := X5.out.few
          have q1 : ((((l ++ [E])).length : Int) + ((N : Int) - (((l ++ [E])).length : Int)) == (N : Int)) = true := by rw [beq_iff_eq]; omega
          have q2 : ((((l ++ [E])).length : Int) + ((N : Int) - (((l ++ [E])).length : Int)) != (N : Int)) = false := by simp only [bne, q1]; rfl
          have q3 : ¬ ((((l ++ [E])).length : Int) < 0) := by omega
          have q4 : ¬ ((N : Int) - (((l ++ [E])).length : Int) < 0) := by omega
          go_wp2_with fail
          refine (len_any b c N (l ++ [E]) _ X5.out).mono ?_
          rintro e w6 ⟨rfl, k6⟩
          have X6 := Lib.hid (X5.out.kept k6)
          have K6 := Lib.hid (K5.out.trans k6)
          clear k6 X5 K5
          go_wp2_with fail
          refine (room_any b c N (l ++ [E]) _ X6.out).mono ?_
          rintro e w7 ⟨rfl, k7⟩
          have X7 := Lib.hid (X6.out.kept k7)
          have K7 := Lib.hid (K6.out.trans k7)
          clear k7 X6 K6
          go_wp2
          go_roundw
          case rel => exact ⟨k + 1, (l ++ [E]), by omega, by omega, by go_num, X7.out, K7.out⟩
          case measure => simp [intOf]; omega
        · have r0 : ((N : Int) - (l.length : Int) == 0) = true := by rw [beq_iff_eq]; have := X.out.few; omega
          go_wp2_with fail
          refine (room_any b c N l _ X.out).mono ?_
          rintro e w2 ⟨rfl, k2⟩
          have X2 := Lib.hid (X.out.kept k2)
          have K2 := Lib.hid (K.out.trans k2)
          clear k2 X K
          go_wp2_with fail
          have c2 := (Below.cell K2.out (p := ⟨B, off + k * 3 + 1, none⟩) hB).trans C1.out
          generalize hE : S.extract 0 (min (S.size : Int) 40).toNat = E at sb
          go_region_held3 (fun w' => w'.cell? ⟨B, off + k * 3 + 1, none⟩ = some (.string S))
            (first | exact c2 | exact c3)
            (first
              | (go_at_call 11; refine (put_full b c N l E _ (X2.out.kept (Kept.drew (Kept.refl w2))) (by omega) (by omega)).mono ?_
                 rintro e w3 ⟨rfl, b3⟩; have k3 : Kept w w3 := (K2.out.trans (Kept.drew (Kept.refl w2))).trans b3; have x3 := (X2.out.kept (Kept.drew (Kept.refl w2))).kept b3
                 have c3 : w3.cell? ⟨B, off + k * 3 + 1, none⟩ = some (.string S) := (Below.cell k3 (p := ⟨B, off + k * 3 + 1, none⟩) hB).trans C1.out))
          have X3 := Lib.hid x3
          have K3 := Lib.hid k3
          clear x3 k3 c2 c3 X2 K2
          go_wp2_with fail
          refine (len_any b c N l _ X3.out).mono ?_
          rintro e w4 ⟨rfl, k4⟩
          have X4 := Lib.hid (X3.out.kept k4)
          have K4 := Lib.hid (K3.out.trans k4)
          clear k4 X3 K3
          go_wp2_with fail
          refine (room_any b c N l _ X4.out).mono ?_
          rintro e w5 ⟨rfl, k5⟩
          have X5 := Lib.hid (X4.out.kept k5)
          have K5 := Lib.hid (K4.out.trans k5)
          clear k5 X4 K4
          have hf := X5.out.few
          have q1 : (((l).length : Int) + ((N : Int) - ((l).length : Int)) == (N : Int)) = true := by rw [beq_iff_eq]; omega
          have q2 : (((l).length : Int) + ((N : Int) - ((l).length : Int)) != (N : Int)) = false := by simp only [bne, q1]; rfl
          have q3 : ¬ (((l).length : Int) < 0) := by omega
          have q4 : ¬ ((N : Int) - ((l).length : Int) < 0) := by omega
          go_wp2_with fail
          refine (len_any b c N l _ X5.out).mono ?_
          rintro e w6 ⟨rfl, k6⟩
          have X6 := Lib.hid (X5.out.kept k6)
          have K6 := Lib.hid (K5.out.trans k6)
          clear k6 X5 K5
          go_wp2_with fail
          refine (room_any b c N l _ X6.out).mono ?_
          rintro e w7 ⟨rfl, k7⟩
          have X7 := Lib.hid (X6.out.kept k7)
          have K7 := Lib.hid (K6.out.trans k7)
          clear k7 X6 K6
          go_wp2
          go_roundw
          case rel => exact ⟨k + 1, l, by omega, by omega, by go_num, X7.out, K7.out⟩
          case measure => simp [intOf]; omega
    · have hx : (k : Int) < len ∧ ¬ (k : Int) < 60 ∨ ¬ (k : Int) < len := by omega
      rcases hx with ⟨h1, h2⟩ | h1
      all_goals
        go_wp2_with fail
        refine (fix_any _).mono ?_
        rintro e w9 ⟨rfl, k9⟩
        have K9 := Lib.hid (K.out.trans k9)
        clear k9
        go_wp2
        go_ret
        exact ⟨rfl, K9.out⟩
end Go.Proofs.Ytcachpcefeoolaa
