/-
  The walk of the law MailCopies.
-/
import Derived.Test.YtcachpcefeoolaaMown
import Derived.Test.YtcachpcefeoolaaKslice
namespace Go.Proofs.Ytcachpcefeoolaa
open Go.ChangeShapes Go.WideShapes Go.ChangeAt Go.RowKit

set_option maxHeartbeats 2000000 in
set_option maxRecDepth 100000 in
theorem mcopies_walk (av : Option Addr) (len cap : Nat) (z : Nat → ByteArray) (w : World) (hl : StrArg w av len cap z) :
    Calls Try.prog 7 #[.slice av len cap] w fun e w' => e = .returned (.bool true) ∧ Kept w w' := by
  obtain ⟨l1, l2, l3, l4⟩ := hl
  unfold maxLen at l2 l3
  have L3 := Lib.hid l3
  have L4 := Lib.hid l4
  clear l3 l4
  go_enter Try.func7, Try.ntmps7
  go_wp2_with fail
  refine (new_ok 16 w (by decide) (by decide)).mono ?_
  rintro e w1 ⟨b, c, rfl, hb, hc, x1, k1⟩
  have X1 := Lib.hid x1
  have K1 := Lib.hid k1
  clear x1 k1
  go_wp2
  have hin0 : OwnS (w1.alloc (.cells #[] 9)) w.heap.size (.slice (some ⟨w1.heap.size, 0, none⟩) 0 0) [] := (own_empty' w1).mono K1.out.size
  have Hin0 := Lib.hid hin0
  clear hin0
  go_loopw [5, 6] (fun v i wr => ∃ k : Nat, k ≤ len ∧ k ≤ 16 ∧ i = .int .i64 k ∧ OwnS wr w.heap.size v (txs (cutsOf 40 z k)) ∧ Bx wr b c 16 (cutsOf 40 z k) ∧ Kept w wr) (fun _ i _ => 16 - (intOf i).toNat)
  case atStart => exact ⟨0, Nat.zero_le _, Nat.zero_le _, rfl, Hin0.out, X1.out.kept ((Kept.refl w1).alloc _), K1.out.trans ((Kept.refl w1).alloc _)⟩
  case round =>
    obtain ⟨k, hk, hk16, rfl, hv, hx, hkr⟩ := hrel
    have X := Lib.hid hx
    have K := Lib.hid hkr
    have V := Lib.hid hv
    have hsz := hkr.size
    have hcl := cutsOf_len 40 z k
    have htl : (txs (cutsOf 40 z k)).length = k := by rw [txs_len, hcl]
    clear hx hkr hv
    by_cases hlt : k < len ∧ k < 16
    · obtain ⟨hlt1, hlt2⟩ := hlt
      obtain ⟨B, off, rfl, hB, hc⟩ := L4.out.resolve_left (by omega)
      have d0 := (Below.cell K.out (p := ⟨B, off + k, none⟩) hB).trans (hc k hlt1)
      have hs := L3.out k
      have hsucc := cutsOf_succ 40 z k
      clear hc
      generalize z k = S at d0 hs hsucc
      have mb1 : 0 ≤ min (S.size : Int) 40 := by omega
      have mb2 : min (S.size : Int) 40 ≤ (S.size : Int) := by omega
      have sb : (S.extract 0 (min (S.size : Int) 40).toNat).size ≤ 40 := by rw [ByteArray.size_extract]; omega
      have HS := Lib.hid hsucc
      clear hsucc
      go_wp2
      go_quiet (fail)
      have kq : Kept wr (wr.drewN nq) := below_drewN (Kept.refl wr) nq
      generalize wr.drewN nq = wq at kq ⊢
      have Xq := Lib.hid (X.out.kept kq)
      have Kq := Lib.hid (K.out.trans kq)
      have Vq := Lib.hid (V.out.kept kq)
      have hbq : w.heap.size ≤ wq.heap.size := Kq.out.size
      clear kq X K V d0
      obtain ⟨vf, vc, rfl⟩ : ∃ a cap, u5 = .slice a k cap := by
        obtain ⟨a, cap, e⟩ := Vq.out.form
        rw [htl] at e
        exact ⟨a, cap, e⟩
      go_wp2_with (first
        | (at_builtin
           refine wp_snoc Vq.out (by rw [htl]; omega) hbq (S.extract 0 (min (S.size : Int) 40).toNat) rfl _ _ rfl rfl rfl ?_; intro g3 c3 w3 o3 b3 bt3
           have O3 := Lib.hid o3
           have X3 := Lib.hid (Xq.out.row Vq.out bt3)
           have K3 := Lib.hid (kept_row Kq.out Vq.out (Nat.le_refl _) bt3)
           clear o3 b3 bt3
           rw [htl] at O3 ⊢
           go_frame)
        | fail)
      generalize S.extract 0 (min (S.size : Int) 40).toNat = E at sb HS O3 ⊢
      refine (put_room b c 16 (cutsOf 40 z k) E _ X3.out (by omega) (by rw [hcl]; omega)).mono ?_
      rintro e w4 ⟨rfl, x4, b4⟩
      have X4 := Lib.hid x4
      have K4 := Lib.hid (But.after K3.out b4 fun i hi h => by omega)
      have V4 := Lib.hid (O3.out.over X3.out.ch b4)
      clear x4 b4 X3 K3 O3
      go_wp2
      go_roundw
      case rel => exact ⟨k + 1, by omega, by omega, by go_num, by rw [HS.out, txs_snoc]; exact V4.out, by rw [HS.out]; exact X4.out, K4.out⟩
      case measure => simp [intOf]; omega
    · have hx : (k : Int) < len ∧ ¬ (k : Int) < 16 ∨ ¬ (k : Int) < len := by omega
      clear hlt
      obtain ⟨vf, vc, rfl⟩ : ∃ a cap, u5 = .slice a k cap := by
        obtain ⟨a, cap, e⟩ := V.out.form
        rw [htl] at e
        exact ⟨a, cap, e⟩
      rcases hx with ⟨h1, h2⟩ | h1
      all_goals
        go_wp2_with fail
        refine (copy_any b c 16 _ _ X.out).mono ?_
        rintro e w4 ⟨d, dc, rfl, hd, hdc, d4, x4, b4⟩
        have D4 := Lib.hid d4
        have X4 := Lib.hid x4
        have K4 := Lib.hid (But.after K.out b4 fun i hi h => by omega)
        have V4 := Lib.hid (V.out.over X.out.ch b4)
        have hdcc : dc ≠ c := by have := X.out.ch.lt; omega
        have hdw : w.heap.size ≤ dc := by omega
        clear d4 x4 b4 X K V
        go_wp2_with fail
        refine (len_any d dc 16 _ _ D4.out).mono ?_
        rintro e w5 ⟨rfl, k5⟩
        have D5 := Lib.hid (D4.out.kept k5)
        have X5 := Lib.hid (X4.out.kept k5)
        have K5 := Lib.hid (K4.out.trans k5)
        have V5 := Lib.hid (V4.out.kept k5)
        clear k5 D4 X4 K4 V4
        rw [hcl]
        go_wp2_with fail
        refine (room_any d dc 16 _ _ D5.out).mono ?_
        rintro e w6 ⟨rfl, k6⟩
        have D6 := Lib.hid (D5.out.kept k6)
        have X6 := Lib.hid (X5.out.kept k6)
        have K6 := Lib.hid (K5.out.trans k6)
        have V6 := Lib.hid (V5.out.kept k6)
        clear k6 D5 X5 K5 V5
        rw [hcl]
        go_wp2_with fail
        refine (all_any d dc 16 _ _ D6.out).mono ?_
        rintro e w7 ⟨xv, rfl, o7, d7, b7⟩
        have D7 := Lib.hid d7
        have X7 := Lib.hid (X6.out.over D6.out hdcc.symm b7)
        have K7 := Lib.hid (But.after K6.out b7 fun i hi h => by omega)
        have V7 := Lib.hid (V6.out.over D6.out.ch b7)
        have S7 := Lib.hid o7
        clear o7 d7 b7 D6 X6 K6 V6
        go_wp2_with fail
        refine (put_room d dc 16 [] ⟨#[115, 112, 111, 105, 108, 116]⟩ _ D7.out (by decide) (by decide)).mono ?_
        rintro e w8 ⟨rfl, d8, b8⟩
        have D8 := Lib.hid d8
        have X8 := Lib.hid (X7.out.over D7.out hdcc.symm b8)
        have K8 := Lib.hid (But.after K7.out b8 fun i hi h => by omega)
        have V8 := Lib.hid (V7.out.over D7.out.ch b8)
        have S8 := Lib.hid (S7.out.over D7.out.ch b8)
        clear d8 b8 D7 X7 K7 V7 S7
        go_wp2_with fail
        refine (same_any _ _ _ _ _ S8.out.strs V8.out.strs).mono ?_
        rintro e w9 ⟨rfl, k9⟩
        have D9 := Lib.hid (D8.out.kept k9)
        have X9 := Lib.hid (X8.out.kept k9)
        have K9 := Lib.hid (K8.out.trans k9)
        have V9 := Lib.hid (V8.out.kept k9)
        clear k9 D8 X8 K8 V8 S8
        rw [show (txs (cutsOf 40 z k) == txs (cutsOf 40 z k)) = true from by simp]
        go_wp2_with fail
        refine (len_any b c 16 _ _ X9.out).mono ?_
        rintro e w10 ⟨rfl, k10⟩
        have D10 := Lib.hid (D9.out.kept k10)
        have X10 := Lib.hid (X9.out.kept k10)
        have K10 := Lib.hid (K9.out.trans k10)
        have V10 := Lib.hid (V9.out.kept k10)
        clear k10 D9 X9 K9 V9
        rw [hcl]
        go_wp2_with fail
        refine (all_any b c 16 _ _ X10.out).mono ?_
        rintro e w11 ⟨yv, rfl, o11, x11, b11⟩
        have D11 := Lib.hid (D10.out.over X10.out hdcc b11)
        have K11 := Lib.hid (But.after K10.out b11 fun i hi h => by omega)
        have V11 := Lib.hid (V10.out.over X10.out.ch b11)
        have S11 := Lib.hid o11
        clear o11 x11 b11 D10 X10 K10 V10
        go_wp2_with fail
        refine (same_any _ _ _ _ _ S11.out.strs V11.out.strs).mono ?_
        rintro e w12 ⟨rfl, k12⟩
        have D12 := Lib.hid (D11.out.kept k12)
        have K12 := Lib.hid (K11.out.trans k12)
        clear k12 D11 K11 V11 S11
        rw [show (txs (cutsOf 40 z k) == txs (cutsOf 40 z k)) = true from by simp]
        go_wp2_with fail
        refine (len_any d dc 16 _ _ D12.out).mono ?_
        rintro e w13 ⟨rfl, k13⟩
        have K13 := Lib.hid (K12.out.trans k13)
        clear k13 D12 K12
        go_wp2_with fail
        refine (fix_any _).mono ?_
        rintro e w14 ⟨rfl, k14⟩
        have K14 := Lib.hid (K13.out.trans k14)
        clear k14
        go_wp2
        go_ret
        exact ⟨rfl, K14.out⟩
end Go.Proofs.Ytcachpcefeoolaa
