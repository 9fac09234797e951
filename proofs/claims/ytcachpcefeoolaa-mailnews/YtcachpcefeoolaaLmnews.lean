/-
  The walk of the law MailNews.
-/
import Derived.Test.YtcachpcefeoolaaMref
namespace Go.Proofs.Ytcachpcefeoolaa
open Go.ChangeShapes Go.WideShapes Go.ChangeAt Go.RowKit

set_option maxHeartbeats 2000000 in
set_option maxRecDepth 100000 in
theorem mnews_walk (size : Int) (w : World) (_s0 : -9223372036854775808 ≤ size) (_s1 : size ≤ 9223372036854775807) :
    Calls Try.prog 4 #[.int .i64 size] w fun e w' => e = .returned (.bool true) ∧ Kept w w' := by
  by_cases hs : size < 1 ∨ 256 < size
  · go_enter Try.func4, Try.ntmps4
    go_wp2_with fail
    refine (new_bad size w hs).mono ?_
    rintro e w1 ⟨rfl, k1⟩
    have K1 := Lib.hid k1
    clear k1
    go_wp2_with fail
    refine (rnew_bad size _ hs).mono ?_
    rintro e w2 ⟨rfl, k2⟩
    have K2 := Lib.hid (K1.out.trans k2)
    clear k2 K1
    go_wp2_with fail
    refine (fix_any _).mono ?_
    rintro e w3 ⟨rfl, k3⟩
    have K3 := Lib.hid (K2.out.trans k3)
    clear k3
    go_wp2
    go_ret
    exact ⟨rfl, K3.out⟩
  · obtain ⟨N, rfl⟩ : ∃ N : Nat, size = (N : Int) := ⟨size.toNat, by omega⟩
    have h1 : 1 ≤ N := by omega
    have h2 : N ≤ 256 := by omega
    clear hs
    go_enter Try.func4, Try.ntmps4
    go_wp2_with fail
    refine (new_ok N w h1 h2).mono ?_
    rintro e w1 ⟨b, c, rfl, hb, hc, x1, k1⟩
    have X1 := Lib.hid x1
    have K1 := Lib.hid k1
    clear x1 k1
    go_wp2_with fail
    refine (rnew_ok N _ h1 h2).mono ?_
    rintro e w2 ⟨rb, rfl, _, _, k2⟩
    have X2 := Lib.hid (X1.out.kept k2)
    have K2 := Lib.hid (K1.out.trans k2)
    clear k2 X1 K1
    go_wp2
    go_loopw [7] (fun i wr => ∃ (k : Nat) (l : List ByteArray), k ≤ N ∧ i = .int .i64 k ∧ l.length = k ∧ Bx wr b c N l ∧ Kept w wr) (fun i _ => N - (intOf i).toNat)
    case atStart => exact ⟨0, [], Nat.zero_le _, rfl, rfl, X2.out, K2.out⟩
    case round =>
      clear X2 K2
      obtain ⟨k, l, hk, rfl, hll, hx, hkr⟩ := hrel
      have X := Lib.hid hx
      have K := Lib.hid hkr
      clear hx hkr
      by_cases hlt : k < N
      · have q1 : ((N : Int) - (k : Int) == (N : Int) - (k : Int)) = true := by simp
        go_wp2_with fail
        refine (len_any b c N l _ X.out).mono ?_
        rintro e w3 ⟨rfl, k3⟩
        have X3 := Lib.hid (X.out.kept k3)
        have K3 := Lib.hid (K.out.trans k3)
        clear k3 X K
        rw [hll]
        go_wp2_with fail
        refine (room_any b c N l _ X3.out).mono ?_
        rintro e w4 ⟨rfl, k4⟩
        have X4 := Lib.hid (X3.out.kept k4)
        have K4 := Lib.hid (K3.out.trans k4)
        clear k4 X3 K3
        rw [hll]
        go_wp2_with fail
        refine (put_room b c N l ⟨#[120]⟩ _ X4.out (by decide) (by omega)).mono ?_
        rintro e w5 ⟨rfl, x5, b5⟩
        have X5 := Lib.hid x5
        have K5 := Lib.hid (But.after K4.out b5 fun i hi h => by omega)
        clear x5 b5 X4 K4
        go_wp2
        go_roundw
        case rel => exact ⟨k + 1, l ++ [⟨#[120]⟩], by omega, by go_num, by simp [hll], X5.out, K5.out⟩
        case measure => simp [intOf]; omega
      · have hkn : k = N := by omega
        subst hkn
        go_wp2_with fail
        refine (put_full b c k l ⟨#[120]⟩ _ X.out (by decide) (by omega)).mono ?_
        rintro e w3 ⟨rfl, k3⟩
        have X3 := Lib.hid (X.out.kept k3)
        have K3 := Lib.hid (K.out.trans k3)
        clear k3 X K
        go_wp2_with fail
        refine (room_any b c k l _ X3.out).mono ?_
        rintro e w4 ⟨rfl, k4⟩
        have K4 := Lib.hid (K3.out.trans k4)
        clear k4 X3 K3
        rw [hll, Int.sub_self]
        go_wp2_with fail
        refine (fix_any _).mono ?_
        rintro e w5 ⟨rfl, k5⟩
        have K5 := Lib.hid (K4.out.trans k5)
        clear k5
        go_wp2
        go_ret
        exact ⟨rfl, K5.out⟩
end Go.Proofs.Ytcachpcefeoolaa
