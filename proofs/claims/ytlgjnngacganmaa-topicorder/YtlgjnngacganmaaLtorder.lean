/-
  The walk of the law TopicOrder.
-/
import Derived.Test.YtlgjnngacganmaaTfrom
namespace Go.Proofs.Ytlgjnngacganmaa
open Go.ChangeShapes Go.WideShapes Go.ChangeAt Go.RowKit

set_option maxHeartbeats 4000000 in
set_option maxRecDepth 100000 in
theorem torder_walk (a b c : ByteArray) (w : World) (ha : a.size ≤ maxLen) (hb : b.size ≤ maxLen) (hc : c.size ≤ maxLen) :
    Calls Try.prog 6 #[.string a, .string b, .string c] w fun e w' => e = .returned (.bool true) ∧ Kept w w' := by
  unfold maxLen at ha hb hc
  go_enter Try.func6, Try.ntmps6
  go_upto_region 4 with fail
  have sa := cut_size a 200
  have sb := cut_size b 200
  have sc := cut_size c 200
  simp only [Int.cast_ofNat_Int] at sa sb sc
  generalize a.extract 0 (min (a.size : Int) 200).toNat = A at sa ⊢
  generalize b.extract 0 (min (b.size : Int) 200).toNat = B at sb ⊢
  generalize c.extract 0 (min (c.size : Int) 200).toNat = C at sc ⊢
  clear ha hb hc
  go_cut [35] (fun s35 wx => s35 = .bool false ∧ Kept w wx)
  case first =>
    have K := Kept.refl w
    cases hf : Tp.filter A.data.toList with
    | false =>
      have Hf := Lib.hid hf
      clear hf
      go_wp2_with fail
      refine (filter_from K A (by omega) _ Hf.out).mono ?_
      rintro e w1 ⟨rfl, K1⟩
      go_wp2_with fail
      go_meet
      case rel => exact ⟨rfl, K1⟩
    | true =>
      have Hf := Lib.hid hf
      clear hf
      go_wp2_with fail
      refine (filter_from K A (by omega) _ Hf.out).mono ?_
      rintro e w1 ⟨rfl, K1⟩
      go_wp2_with fail
      refine (covers_from K1 A A (by omega) (by omega) true (Tp.covers_refl Hf.out)).mono ?_
      rintro e w2 ⟨rfl, K2⟩
      go_wp2_with fail
      refine (meet_from K2 A A (by omega) (by omega) true (Tp.meet_refl Hf.out)).mono ?_
      rintro e w3 ⟨rfl, K3⟩
      go_wp2_with fail
      go_meet
      case rel => exact ⟨rfl, K3⟩
  case rest =>
    obtain ⟨rfl, K⟩ := hcut
    go_upto_region 6 with fail
    go_cut [49] (fun s49 wx => s49 = .bool false ∧ Kept w wx)
    case first =>
      cases hf : Tp.covers A.data.toList B.data.toList with
      | false =>
        have Hf := Lib.hid hf
        clear hf
        go_wp2_with fail
        refine (covers_from K A B (by omega) (by omega) _ Hf.out).mono ?_
        rintro e w1 ⟨rfl, K1⟩
        go_wp2_with fail
        go_meet
        case rel => exact ⟨rfl, K1⟩
      | true =>
        have Hf := Lib.hid hf
        clear hf
        go_wp2_with fail
        refine (covers_from K A B (by omega) (by omega) _ Hf.out).mono ?_
        rintro e w1 ⟨rfl, K1⟩
        cases hg : Tp.covers B.data.toList C.data.toList with
        | false =>
          have Hg := Lib.hid hg
          clear hg
          go_wp2_with fail
          refine (covers_from K1 B C (by omega) (by omega) _ Hg.out).mono ?_
          rintro e w2 ⟨rfl, K2⟩
          go_wp2_with fail
          go_meet
          case rel => exact ⟨rfl, K2⟩
        | true =>
          have Hg := Lib.hid hg
          clear hg
          go_wp2_with fail
          refine (covers_from K1 B C (by omega) (by omega) _ Hg.out).mono ?_
          rintro e w2 ⟨rfl, K2⟩
          go_wp2_with fail
          refine (covers_from K2 A C (by omega) (by omega) true (Tp.covers_trans Hf.out Hg.out)).mono ?_
          rintro e w3 ⟨rfl, K3⟩
          go_wp2_with fail
          go_meet
          case rel => exact ⟨rfl, K3⟩
    case rest =>
      clear K
      obtain ⟨rfl, K⟩ := hcut
      go_upto_region 8 with fail
      go_cut [63] (fun s63 wx => s63 = .bool false ∧ Kept w wx)
      case first =>
        cases hf : Tp.match_ A.data.toList C.data.toList with
        | false =>
          have Hf := Lib.hid hf
          clear hf
          go_wp2_with fail
          refine (match_from K A C (by omega) (by omega) _ Hf.out).mono ?_
          rintro e w1 ⟨rfl, K1⟩
          go_wp2_with fail
          go_meet
          case rel => exact ⟨rfl, K1⟩
        | true =>
          have Hf := Lib.hid hf
          clear hf
          go_wp2_with fail
          refine (match_from K A C (by omega) (by omega) _ Hf.out).mono ?_
          rintro e w1 ⟨rfl, K1⟩
          cases hg : Tp.match_ B.data.toList C.data.toList with
          | false =>
            have Hg := Lib.hid hg
            clear hg
            go_wp2_with fail
            refine (match_from K1 B C (by omega) (by omega) _ Hg.out).mono ?_
            rintro e w2 ⟨rfl, K2⟩
            go_wp2_with fail
            go_meet
            case rel => exact ⟨rfl, K2⟩
          | true =>
            have Hg := Lib.hid hg
            clear hg
            go_wp2_with fail
            refine (match_from K1 B C (by omega) (by omega) _ Hg.out).mono ?_
            rintro e w2 ⟨rfl, K2⟩
            go_wp2_with fail
            refine (meet_from K2 A B (by omega) (by omega) true (Tp.match_meet Hf.out Hg.out)).mono ?_
            rintro e w3 ⟨rfl, K3⟩
            go_wp2_with fail
            go_meet
            case rel => exact ⟨rfl, K3⟩
      case rest =>
        clear K
        obtain ⟨rfl, K⟩ := hcut
        cases hf : Tp.covers A.data.toList B.data.toList with
        | false =>
          have Hf := Lib.hid hf
          clear hf
          cases hm : Tp.meet A.data.toList B.data.toList with
          | false =>
            have Hm := Lib.hid hm
            clear hm
            go_wp2_with fail
            refine (covers_from K A B (by omega) (by omega) _ Hf.out).mono ?_
            rintro e w1 ⟨rfl, K1⟩
            go_wp2_with fail
            refine (meet_from K1 A B (by omega) (by omega) _ Hm.out).mono ?_
            rintro e w2 ⟨rfl, K2⟩
            go_wp2_with fail
            refine (meet_from K2 B A (by omega) (by omega) false ((Tp.meet_comm _ _).trans Hm.out)).mono ?_
            rintro e w3 ⟨rfl, K3⟩
            go_wp2_with fail
            refine (covers_from K3 A B (by omega) (by omega) _ Hf.out).mono ?_
            rintro e w4 ⟨rfl, K4⟩
            go_wp2_with fail
            refine (fix_from K4).mono ?_
            rintro e w5 ⟨rfl, Kf⟩
            go_wp2_with fail
            go_ret
            exact ⟨rfl, Kf⟩
          | true =>
            have Hm := Lib.hid hm
            clear hm
            go_wp2_with fail
            refine (covers_from K A B (by omega) (by omega) _ Hf.out).mono ?_
            rintro e w1 ⟨rfl, K1⟩
            go_wp2_with fail
            refine (meet_from K1 A B (by omega) (by omega) _ Hm.out).mono ?_
            rintro e w2 ⟨rfl, K2⟩
            go_wp2_with fail
            refine (meet_from K2 B A (by omega) (by omega) true ((Tp.meet_comm _ _).trans Hm.out)).mono ?_
            rintro e w3 ⟨rfl, K3⟩
            go_wp2_with fail
            refine (covers_from K3 A B (by omega) (by omega) _ Hf.out).mono ?_
            rintro e w4 ⟨rfl, K4⟩
            go_wp2_with fail
            refine (fix_from K4).mono ?_
            rintro e w5 ⟨rfl, Kf⟩
            go_wp2_with fail
            go_ret
            exact ⟨rfl, Kf⟩
        | true =>
          have Hf := Lib.hid hf
          have Hm := Lib.hid (Tp.covers_meet hf)
          clear hf
          go_wp2_with fail
          refine (covers_from K A B (by omega) (by omega) _ Hf.out).mono ?_
          rintro e w1 ⟨rfl, K1⟩
          go_wp2_with fail
          refine (meet_from K1 A B (by omega) (by omega) _ Hm.out).mono ?_
          rintro e w9 ⟨rfl, K1b⟩
          go_wp2_with fail
          refine (meet_from K1b A B (by omega) (by omega) _ Hm.out).mono ?_
          rintro e w2 ⟨rfl, K2⟩
          go_wp2_with fail
          refine (meet_from K2 B A (by omega) (by omega) true ((Tp.meet_comm _ _).trans Hm.out)).mono ?_
          rintro e w3 ⟨rfl, K3⟩
          go_wp2_with fail
          refine (covers_from K3 A B (by omega) (by omega) _ Hf.out).mono ?_
          rintro e w4 ⟨rfl, K4⟩
          cases hg : Tp.match_ B.data.toList C.data.toList with
          | false =>
            have Hg := Lib.hid hg
            clear hg
            go_wp2_with fail
            refine (match_from K4 B C (by omega) (by omega) _ Hg.out).mono ?_
            rintro e w5 ⟨rfl, K5⟩
            go_wp2_with fail
            refine (fix_from K5).mono ?_
            rintro e w6 ⟨rfl, Kf⟩
            go_wp2_with fail
            go_ret
            exact ⟨rfl, Kf⟩
          | true =>
            have Hg := Lib.hid hg
            clear hg
            go_wp2_with fail
            refine (match_from K4 B C (by omega) (by omega) _ Hg.out).mono ?_
            rintro e w5 ⟨rfl, K5⟩
            go_wp2_with fail
            refine (match_from K5 A C (by omega) (by omega) true (Tp.covers_match Hf.out Hg.out)).mono ?_
            rintro e w6 ⟨rfl, K6⟩
            go_wp2_with fail
            refine (fix_from K6).mono ?_
            rintro e w7 ⟨rfl, Kf⟩
            go_wp2_with fail
            go_ret
            exact ⟨rfl, Kf⟩
end Go.Proofs.Ytlgjnngacganmaa
