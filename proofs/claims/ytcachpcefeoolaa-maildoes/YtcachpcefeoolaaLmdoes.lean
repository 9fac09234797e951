/-
  The walk of the law MailDoes.
-/
import Derived.Test.YtcachpcefeoolaaMref3
import Derived.Test.YtcachpcefeoolaaMops
import Derived.Test.YtcachpcefeoolaaRquiet
import Derived.Test.YtcachpcefeoolaaVbits
namespace Go.Proofs.Ytcachpcefeoolaa
open Go.ChangeShapes Go.WideShapes Go.ChangeAt Go.RowKit

set_option maxHeartbeats 4000000 in
set_option maxRecDepth 100000 in
theorem mdoes_walk (size : Int) (av : Option Addr) (len cap : Nat) (z : Nat → OpV) (w : World) (_s0 : -9223372036854775808 ≤ size) (_s1 : size ≤ 9223372036854775807) (hz : OpArg w av len cap z) :
    Calls Try.prog 3 #[.int .i64 size, .slice av len cap] w fun e w' => e = .returned (.bool true) ∧ Kept w w' := by
  have hm := and_mask size 15 (by decide)
  simp only [Int.cast_ofNat_Int] at hm
  obtain ⟨M, hM⟩ : ∃ M : Nat, bits BinOp.and IntKind.i64 size 15 = (M : Int) := ⟨(bits BinOp.and IntKind.i64 size 15).toNat, by omega⟩
  rw [hM] at hm
  have HZ := Lib.hid hz
  have hl1 := hz.1
  have hl2 := hz.2.1
  clear hz
  go_enter Try.func3, Try.ntmps3
  go_wp2_with fail
  obtain ⟨N, hN⟩ : ∃ N : Nat, 1 + (M : Int) = (N : Int) := ⟨M + 1, by omega⟩
  rw [hN]
  refine (new_ok N w (by omega) (by omega)).mono ?_
  rintro e w1 ⟨ab, ac, rfl, _, hac, x1, k1⟩
  have hN16 : N ≤ 16 := by omega
  have hN1 : 1 ≤ N := by omega
  clear hN hM hm
  have A1 := Lib.hid x1
  have K1 := Lib.hid k1
  clear x1 k1
  go_wp2_with fail
  refine (new_ok 3 _ (by decide) (by decide)).mono ?_
  rintro e w2 ⟨bb, bc, rfl, _, hbc, x2, k2⟩
  have A2 := Lib.hid (A1.out.kept k2)
  have B2 := Lib.hid x2
  have K2 := Lib.hid (K1.out.trans k2)
  have hne : bc ≠ ac := by have := A1.out.ch.lt; omega
  have hbw : w.heap.size ≤ bc := Nat.le_trans K1.out.size hbc
  clear x2 k2 A1 K1 hbc
  go_wp2_with fail
  refine (rnew_ok N _ hN1 (by omega)).mono ?_
  rintro e w3 ⟨xb, rfl, hxb, x3, k3⟩
  have A3 := Lib.hid (A2.out.kept k3)
  have B3 := Lib.hid (B2.out.kept k3)
  have hxw : w.heap.size ≤ xb := Nat.le_trans K2.out.size hxb
  have X3 := Lib.hid (show RB w3 w.heap.size xb (.slice none 0 0) N [] from ⟨x3.blk, x3.row.mono K2.out.size⟩)
  have K3 := Lib.hid (K2.out.trans k3)
  clear x3 k3 A2 B2 K2 hxb
  go_wp2_with fail
  refine (rnew_ok 3 _ (by decide) (by decide)).mono ?_
  rintro e w4 ⟨yb, rfl, hyb, y4, k4⟩
  have hyw : w.heap.size ≤ yb := Nat.le_trans K3.out.size hyb
  have hxy : xb ≠ yb := by have := heap_lt X3.out.blk; omega
  have F4 : Hid (Four w w4 N ab ac bb bc xb yb (.slice none 0 0) (.slice none 0 0) [] [] [] []) := ⟨A3.out.kept k4, B3.out.kept k4, X3.out.kept k4, ⟨y4.blk, y4.row.mono K3.out.size⟩, K3.out.trans k4, hne, hxy, (fun i e => by cases e), hac, hbw, hxw, hyw⟩
  clear y4 k4 A3 B3 X3 K3 hyb hxy hxw hyw hne hac hbw
  go_wp2
  go_loopw [6, 10, 14] (fun va vx i wr => ∃ (k : Nat) (ab ac xb : Nat) (vx' vy' : Value) (la lb : List ByteArray), k ≤ len ∧ k ≤ 80 ∧ i = .int .i64 k ∧ va = .pointer (some ⟨ab, 0, none⟩) ∧ vx = .pointer (some ⟨xb, 0, none⟩) ∧ Four w wr N ab ac bb bc xb yb vx' vy' la lb la lb) (fun _ _ i _ => 80 - (intOf i).toNat)
  case atStart => exact ⟨0, ab, ac, xb, _, _, [], [], Nat.zero_le _, Nat.zero_le _, rfl, rfl, rfl, F4.out⟩
  case round =>
    clear F4
    obtain ⟨k, ab, ac, xb, vx, vy, la, lb, hk, hk80, rfl, rfl, rfl, hf⟩ := hrel
    have F := Lib.hid hf
    clear hf
    by_cases hlt : k < len ∧ k < 80
    · obtain ⟨hlt1, hlt2⟩ := hlt
      obtain ⟨B, off, rfl, hB, c0, c1, c2, hs⟩ := HZ.out.at hlt1
      have d0 := (Below.cell F.out.kept (p := ⟨B, off + k * 3, none⟩) hB).trans c0
      have d1 := (Below.cell F.out.kept (p := ⟨B, off + k * 3 + 1, none⟩) hB).trans c1
      have d2 := (Below.cell F.out.kept (p := ⟨B, off + k * 3 + 2, none⟩) hB).trans c2
      clear c0 c1 c2
      generalize (z k).kind = kd at d0
      generalize (z k).s = S at d1 hs
      generalize (z k).n = zn at d2
      have mb1 : 0 ≤ min (S.size : Int) 40 := by omega
      have mb2 : min (S.size : Int) 40 ≤ (S.size : Int) := by omega
      have sb : (S.extract 0 (min (S.size : Int) 40).toNat).size ≤ 40 := by rw [ByteArray.size_extract]; omega
      have lla : la.length ≤ 16 := Nat.le_trans F.out.a.few hN16
      have llb : lb.length ≤ 3 := F.out.b.few
      have FA : ∀ kd : Int, Hid (Four w (wr.alloc (.cells #[.int .i64 kd, .string S, .int .i64 zn] 31)) N ab ac bb bc xb yb vx vy la lb la lb) := fun kd => F.out.still ((Kept.refl wr).alloc _)
      generalize hE : S.extract 0 (min (S.size : Int) 40).toNat = E at sb
      by_cases hk0 : kd = 0
      · subst hk0
        have F0 := FA 0
        clear FA F
        go_wp2_with fail
        refine (F0.out.put_a E sb).mono ?_
        rintro e w1 ⟨rfl, f1⟩
        have F1 := Lib.hid f1
        clear f1 F0
        go_wp2_with fail
        refine (F1.out.put_x E (by omega)).mono ?_
        rintro e w2 ⟨rfl, vx2, f2⟩
        have F2 := Lib.hid f2
        clear f2 F1
        generalize putE N la = r at F2 ⊢
        go_wp2_with fail
        refine (F2.out.put_b E sb).mono ?_
        rintro e w3 ⟨rfl, f3⟩
        have F3 := Lib.hid f3
        clear f3 F2
        go_wp2_with fail
        refine (F3.out.put_y E (by omega)).mono ?_
        rintro e w4 ⟨rfl, vy4, f4⟩
        have F4 := Lib.hid f4
        clear f4 F3
        generalize putE 3 lb = r2 at F4 ⊢
        go_wp2_with fail
        have XC : ∀ p : KW w4, p.v.cell? ⟨xb, 0, none⟩ = some vx2 := fun p => (F4.out.x.kept p.h).c0
        have YC : ∀ p : KW w4, p.v.cell? ⟨yb, 0, none⟩ = some vy4 := fun p => (F4.out.y.kept p.h).c0
        obtain ⟨xa, xc, hvx⟩ := F4.out.x.row.form
        obtain ⟨ya, yc, hvy⟩ := F4.out.y.row.form
        subst hvx hvy
        rw [txs_len] at XC YC
        have D1 : Hid (∀ p : KW w4, Calls Try.prog 24 #[.pointer (some ⟨ab, 0, none⟩)] p.v fun e w' => e = .returned (.int .i64 (putL N la E).length) ∧ Kept p.v w') := fun p => len_any _ _ _ _ _ (F4.out.a.kept p.h)
        have D2 : Hid (∀ p : KW w4, Calls Try.prog 25 #[.pointer (some ⟨ab, 0, none⟩)] p.v fun e w' => e = .returned (.int .i64 ((N : Int) - (putL N la E).length)) ∧ Kept p.v w') := fun p => room_any _ _ _ _ _ (F4.out.a.kept p.h)
        have D3 : Hid (∀ p : KW w4, Calls Try.prog 24 #[.pointer (some ⟨bb, 0, none⟩)] p.v fun e w' => e = .returned (.int .i64 (putL 3 lb E).length) ∧ Kept p.v w') := fun p => len_any _ _ _ _ _ (F4.out.b.kept p.h)
        have few1 : ((putL N la E).length : Int) ≤ (N : Int) := by have := F4.out.a.few; omega
        generalize (putL N la E).length = na at XC D1 D2 few1
        generalize (putL 3 lb E).length = nb at YC D3
        have nn : Nonempty (KW w4) := ⟨⟨w4, Kept.refl w4⟩⟩
        refine wp_region_kept (by kernel_rfl) (by kernel_rfl) ?_
        repeat (go_big_quiet_step ((first
          | (go_at_call 24; first | (with_reducible exact KW.calls _ (D1.out _)) | (with_reducible exact KW.calls _ (D3.out _)))
          | (go_at_call 25; with_reducible exact KW.calls _ (D2.out _)))))
        refine wpQuiet_nil ?_
        intro wt hwt
        obtain ⟨ux, uy, FT⟩ : ∃ ux uy, Hid (Four w wt N ab ac bb bc xb yb ux uy (putL N la E) (putL 3 lb E) (putL N la E) (putL 3 lb E)) := by
          obtain ⟨p, rfl⟩ := hwt
          exact ⟨_, _, F4.out.still p.h⟩
        clear hwt
        go_wp2
        go_roundw
        case rel => exact ⟨k + 1, _, _, _, _, _, _, _, by omega, by omega, by go_num, rfl, rfl, FT.out⟩
        case measure => simp [intOf]; omega
      · have e0 : (kd == 0) = false := by simpa using hk0
        by_cases hk1 : kd = 1
        · subst hk1
          have F0 := FA 1
          clear FA F
          have HT : Hid (tells la = .tuple #[.string (hd la), .bool (decide (0 < la.length))]) := rfl
          generalize hd la = p at HT
          generalize decide (0 < la.length) = q at HT
          go_wp2_with fail
          refine F0.out.take_a.mono ?_
          rintro e w1 ⟨rfl, f1⟩
          have F1 := Lib.hid f1
          clear f1 F0
          rw [HT.out]
          go_wp2_with fail
          refine F1.out.take_x.mono ?_
          rintro e w2 ⟨rfl, vx2, f2⟩
          have F2 := Lib.hid f2
          clear f2 F1
          rw [HT.out]
          go_wp2_with fail
          have XC : ∀ p : KW w2, p.v.cell? ⟨xb, 0, none⟩ = some vx2 := fun p => (F2.out.x.kept p.h).c0
          have YC : ∀ p : KW w2, p.v.cell? ⟨yb, 0, none⟩ = some vy := fun p => (F2.out.y.kept p.h).c0
          obtain ⟨xa, xc, hvx⟩ := F2.out.x.row.form
          obtain ⟨ya, yc, hvy⟩ := F2.out.y.row.form
          subst hvx hvy
          rw [txs_len] at XC YC
          have D1 : Hid (∀ p : KW w2, Calls Try.prog 24 #[.pointer (some ⟨ab, 0, none⟩)] p.v fun e w' => e = .returned (.int .i64 (la.tail).length) ∧ Kept p.v w') := fun p => len_any _ _ _ _ _ (F2.out.a.kept p.h)
          have D2 : Hid (∀ p : KW w2, Calls Try.prog 25 #[.pointer (some ⟨ab, 0, none⟩)] p.v fun e w' => e = .returned (.int .i64 ((N : Int) - (la.tail).length)) ∧ Kept p.v w') := fun p => room_any _ _ _ _ _ (F2.out.a.kept p.h)
          have D3 : Hid (∀ p : KW w2, Calls Try.prog 24 #[.pointer (some ⟨bb, 0, none⟩)] p.v fun e w' => e = .returned (.int .i64 (lb).length) ∧ Kept p.v w') := fun p => len_any _ _ _ _ _ (F2.out.b.kept p.h)
          have few1 : ((la.tail).length : Int) ≤ (N : Int) := by have := F2.out.a.few; omega
          generalize (la.tail).length = na at XC D1 D2 few1
          generalize (lb).length = nb at YC D3
          have nn : Nonempty (KW w2) := ⟨⟨w2, Kept.refl w2⟩⟩
          refine wp_region_kept (by kernel_rfl) (by kernel_rfl) ?_
          repeat (go_big_quiet_step ((first
            | (go_at_call 24; first | (with_reducible exact KW.calls _ (D1.out _)) | (with_reducible exact KW.calls _ (D3.out _)))
            | (go_at_call 25; with_reducible exact KW.calls _ (D2.out _)))))
          refine wpQuiet_nil ?_
          intro wt hwt
          obtain ⟨ux, uy, FT⟩ : ∃ ux uy, Hid (Four w wt N ab ac bb bc xb yb ux uy (la.tail) (lb) (la.tail) (lb)) := by
            obtain ⟨p, rfl⟩ := hwt
            exact ⟨_, _, F2.out.still p.h⟩
          clear hwt
          go_wp2
          go_roundw
          case rel => exact ⟨k + 1, _, _, _, _, _, _, _, by omega, by omega, by go_num, rfl, rfl, FT.out⟩
          case measure => simp [intOf]; omega
        · have e1 : (kd == 1) = false := by simpa using hk1
          by_cases hk2 : kd = 2
          · subst hk2
            have F0 := FA 2
            clear FA F
            have HT : Hid (tells la = .tuple #[.string (hd la), .bool (decide (0 < la.length))]) := rfl
            generalize hd la = p at HT
            generalize decide (0 < la.length) = q at HT
            go_wp2_with fail
            refine F0.out.first_a.mono ?_
            rintro e w1 ⟨rfl, f1⟩
            have F1 := Lib.hid f1
            clear f1 F0
            rw [HT.out]
            go_wp2_with fail
            refine F1.out.first_x.mono ?_
            rintro e w2 ⟨rfl, f2⟩
            have F2 := Lib.hid f2
            clear f2 F1
            rw [HT.out]
            go_wp2_with fail
            have XC : ∀ p : KW w2, p.v.cell? ⟨xb, 0, none⟩ = some vx := fun p => (F2.out.x.kept p.h).c0
            have YC : ∀ p : KW w2, p.v.cell? ⟨yb, 0, none⟩ = some vy := fun p => (F2.out.y.kept p.h).c0
            obtain ⟨xa, xc, hvx⟩ := F2.out.x.row.form
            obtain ⟨ya, yc, hvy⟩ := F2.out.y.row.form
            subst hvx hvy
            rw [txs_len] at XC YC
            have D1 : Hid (∀ p : KW w2, Calls Try.prog 24 #[.pointer (some ⟨ab, 0, none⟩)] p.v fun e w' => e = .returned (.int .i64 (la).length) ∧ Kept p.v w') := fun p => len_any _ _ _ _ _ (F2.out.a.kept p.h)
            have D2 : Hid (∀ p : KW w2, Calls Try.prog 25 #[.pointer (some ⟨ab, 0, none⟩)] p.v fun e w' => e = .returned (.int .i64 ((N : Int) - (la).length)) ∧ Kept p.v w') := fun p => room_any _ _ _ _ _ (F2.out.a.kept p.h)
            have D3 : Hid (∀ p : KW w2, Calls Try.prog 24 #[.pointer (some ⟨bb, 0, none⟩)] p.v fun e w' => e = .returned (.int .i64 (lb).length) ∧ Kept p.v w') := fun p => len_any _ _ _ _ _ (F2.out.b.kept p.h)
            have few1 : ((la).length : Int) ≤ (N : Int) := by have := F2.out.a.few; omega
            generalize (la).length = na at XC D1 D2 few1
            generalize (lb).length = nb at YC D3
            have nn : Nonempty (KW w2) := ⟨⟨w2, Kept.refl w2⟩⟩
            refine wp_region_kept (by kernel_rfl) (by kernel_rfl) ?_
            repeat (go_big_quiet_step ((first
              | (go_at_call 24; first | (with_reducible exact KW.calls _ (D1.out _)) | (with_reducible exact KW.calls _ (D3.out _)))
              | (go_at_call 25; with_reducible exact KW.calls _ (D2.out _)))))
            refine wpQuiet_nil ?_
            intro wt hwt
            obtain ⟨ux, uy, FT⟩ : ∃ ux uy, Hid (Four w wt N ab ac bb bc xb yb ux uy (la) (lb) (la) (lb)) := by
              obtain ⟨p, rfl⟩ := hwt
              exact ⟨_, _, F2.out.still p.h⟩
            clear hwt
            go_wp2
            go_roundw
            case rel => exact ⟨k + 1, _, _, _, _, _, _, _, by omega, by omega, by go_num, rfl, rfl, FT.out⟩
            case measure => simp [intOf]; omega
          · have e2 : (kd == 2) = false := by simpa using hk2
            by_cases hk3 : kd = 3
            · subst hk3
              have F0 := FA 3
              clear FA F
              go_wp2_with fail
              refine F0.out.all_a.mono ?_
              rintro e w1 ⟨v1, rfl, o1, f1⟩
              have F1 := Lib.hid f1
              have O1 := Lib.hid o1
              clear f1 o1 F0
              go_wp2_with fail
              refine (F1.out.all_x O1.out).mono ?_
              rintro e w2 ⟨v2, rfl, o2, o1, vx2, f2⟩
              have F2 := Lib.hid f2
              have O2 := Lib.hid o2
              have O3 := Lib.hid o1
              clear f2 o2 o1 F1 O1
              go_wp2_with fail
              refine (same_any _ _ _ _ _ O3.out.strs O2.out.strs).mono ?_
              rintro e w3 ⟨rfl, k3⟩
              have F3 := Lib.hid (F2.out.still k3)
              clear k3 F2 O2 O3
              rw [show (txs la == txs la) = true from by simp]
              go_wp2_with fail
              have XC : ∀ p : KW w3, p.v.cell? ⟨xb, 0, none⟩ = some vx2 := fun p => (F3.out.x.kept p.h).c0
              have YC : ∀ p : KW w3, p.v.cell? ⟨yb, 0, none⟩ = some vy := fun p => (F3.out.y.kept p.h).c0
              obtain ⟨xa, xc, hvx⟩ := F3.out.x.row.form
              obtain ⟨ya, yc, hvy⟩ := F3.out.y.row.form
              subst hvx hvy
              rw [txs_len] at XC YC
              have D1 : Hid (∀ p : KW w3, Calls Try.prog 24 #[.pointer (some ⟨ab, 0, none⟩)] p.v fun e w' => e = .returned (.int .i64 ([] : List ByteArray).length) ∧ Kept p.v w') := fun p => len_any _ _ _ _ _ (F3.out.a.kept p.h)
              have D2 : Hid (∀ p : KW w3, Calls Try.prog 25 #[.pointer (some ⟨ab, 0, none⟩)] p.v fun e w' => e = .returned (.int .i64 ((N : Int) - ([] : List ByteArray).length)) ∧ Kept p.v w') := fun p => room_any _ _ _ _ _ (F3.out.a.kept p.h)
              have D3 : Hid (∀ p : KW w3, Calls Try.prog 24 #[.pointer (some ⟨bb, 0, none⟩)] p.v fun e w' => e = .returned (.int .i64 (lb).length) ∧ Kept p.v w') := fun p => len_any _ _ _ _ _ (F3.out.b.kept p.h)
              have few1 : (([] : List ByteArray).length : Int) ≤ (N : Int) := by have := F3.out.a.few; omega
              generalize ([] : List ByteArray).length = na at XC D1 D2 few1
              generalize (lb).length = nb at YC D3
              have nn : Nonempty (KW w3) := ⟨⟨w3, Kept.refl w3⟩⟩
              refine wp_region_kept (by kernel_rfl) (by kernel_rfl) ?_
              repeat (go_big_quiet_step ((first
                | (go_at_call 24; first | (with_reducible exact KW.calls _ (D1.out _)) | (with_reducible exact KW.calls _ (D3.out _)))
                | (go_at_call 25; with_reducible exact KW.calls _ (D2.out _)))))
              refine wpQuiet_nil ?_
              intro wt hwt
              obtain ⟨ux, uy, FT⟩ : ∃ ux uy, Hid (Four w wt N ab ac bb bc xb yb ux uy ([] : List ByteArray) (lb) ([] : List ByteArray) (lb)) := by
                obtain ⟨p, rfl⟩ := hwt
                exact ⟨_, _, F3.out.still p.h⟩
              clear hwt
              go_wp2
              go_roundw
              case rel => exact ⟨k + 1, _, _, _, _, _, _, _, by omega, by omega, by go_num, rfl, rfl, FT.out⟩
              case measure => simp [intOf]; omega
            · have e3 : (kd == 3) = false := by simpa using hk3
              by_cases hk4 : kd = 4
              · subst hk4
                have F0 := FA 4
                clear FA F
                have hac := F0.out.la
                go_wp2_with fail
                refine F0.out.copy_a.mono ?_
                rintro e w1 ⟨ab1, ac1, rfl, f1, o1, n1, n2⟩
                have F1 := Lib.hid f1
                have O1 := Lib.hid o1
                clear f1 o1 F0
                go_wp2_with fail
                refine (F1.out.copy_x (by omega)).mono ?_
                rintro e w2 ⟨xb2, vx2, rfl, f2, k2⟩
                have F2 := Lib.hid f2
                have O2 := Lib.hid (O1.out.kept k2)
                clear f2 k2 F1 O1
                go_wp2_with fail
                refine (all_any _ _ _ _ _ O2.out).mono ?_
                rintro e w3 ⟨v3, rfl, _, o3, b3⟩
                have F3 := Lib.hid (F2.out.other O2.out b3 n1 n2 hac)
                have O3 := Lib.hid o3
                clear o3 b3 F2 O2
                go_wp2_with fail
                refine (put_room _ _ _ _ ⟨#[115, 112, 111, 105, 108, 116]⟩ _ O3.out (by decide) (by simp; omega)).mono ?_
                rintro e w4 ⟨rfl, o4, b4⟩
                have F4 := Lib.hid (F3.out.other O3.out b4 n1 n2 hac)
                clear o4 b4 F3 O3
                go_wp2_with fail
                have XC : ∀ p : KW w4, p.v.cell? ⟨xb2, 0, none⟩ = some vx2 := fun p => (F4.out.x.kept p.h).c0
                have YC : ∀ p : KW w4, p.v.cell? ⟨yb, 0, none⟩ = some vy := fun p => (F4.out.y.kept p.h).c0
                obtain ⟨xa, xc, hvx⟩ := F4.out.x.row.form
                obtain ⟨ya, yc, hvy⟩ := F4.out.y.row.form
                subst hvx hvy
                rw [txs_len] at XC YC
                have D1 : Hid (∀ p : KW w4, Calls Try.prog 24 #[.pointer (some ⟨ab1, 0, none⟩)] p.v fun e w' => e = .returned (.int .i64 (la).length) ∧ Kept p.v w') := fun p => len_any _ _ _ _ _ (F4.out.a.kept p.h)
                have D2 : Hid (∀ p : KW w4, Calls Try.prog 25 #[.pointer (some ⟨ab1, 0, none⟩)] p.v fun e w' => e = .returned (.int .i64 ((N : Int) - (la).length)) ∧ Kept p.v w') := fun p => room_any _ _ _ _ _ (F4.out.a.kept p.h)
                have D3 : Hid (∀ p : KW w4, Calls Try.prog 24 #[.pointer (some ⟨bb, 0, none⟩)] p.v fun e w' => e = .returned (.int .i64 (lb).length) ∧ Kept p.v w') := fun p => len_any _ _ _ _ _ (F4.out.b.kept p.h)
                have few1 : ((la).length : Int) ≤ (N : Int) := by have := F4.out.a.few; omega
                generalize (la).length = na at XC D1 D2 few1
                generalize (lb).length = nb at YC D3
                have nn : Nonempty (KW w4) := ⟨⟨w4, Kept.refl w4⟩⟩
                refine wp_region_kept (by kernel_rfl) (by kernel_rfl) ?_
                repeat (go_big_quiet_step ((first
                  | (go_at_call 24; first | (with_reducible exact KW.calls _ (D1.out _)) | (with_reducible exact KW.calls _ (D3.out _)))
                  | (go_at_call 25; with_reducible exact KW.calls _ (D2.out _)))))
                refine wpQuiet_nil ?_
                intro wt hwt
                obtain ⟨ux, uy, FT⟩ : ∃ ux uy, Hid (Four w wt N ab1 ac1 bb bc xb2 yb ux uy (la) (lb) (la) (lb)) := by
                  obtain ⟨p, rfl⟩ := hwt
                  exact ⟨_, _, F4.out.still p.h⟩
                clear hwt
                go_wp2
                go_roundw
                case rel => exact ⟨k + 1, _, _, _, _, _, _, _, by omega, by omega, by go_num, rfl, rfl, FT.out⟩
                case measure => simp [intOf]; omega
              · have e4 : (kd == 4) = false := by simpa using hk4
                have F0 := FA kd
                clear FA F
                have hop := heap_alloc_new wr (.cells #[.int .i64 kd, .string S, .int .i64 zn] 31)
                have HOP := Lib.hid hop
                clear hop
                go_wp2_with fail
                have hws : (wr.alloc (.cells #[.int .i64 kd, .string S, .int .i64 zn] 31)).heap.size = wr.heap.size + 1 := World.size_alloc _ _
                generalize wr.alloc (.cells #[.int .i64 kd, .string S, .int .i64 zn] 31) = wo at F0 HOP hws ⊢
                have k0 := (Kept.refl wo).alloc (.cells #[.pointer (some ⟨ab, 0, none⟩), .pointer (some ⟨bb, 0, none⟩)] 23)
                have G0 := Lib.hid (F0.out.still k0)
                have hop0 := (Below.block k0 _ (heap_lt HOP.out)).trans HOP.out
                have t0 := two_new wo ab bb
                rw [hws] at t0
                have T0 := Lib.hid t0
                have HOP0 := Lib.hid hop0
                clear k0 F0 HOP hop0 t0 hws
                generalize wo.alloc (.cells #[.pointer (some ⟨ab, 0, none⟩), .pointer (some ⟨bb, 0, none⟩)] 23) = w0 at G0 T0 HOP0 ⊢
                refine (G0.out.turn (wr.heap.size + 1) 2 zn T0.out).mono ?_
                rintro e w1 ⟨rfl, f1, q1⟩
                have F1 := Lib.hid f1
                have hop1 := q1 _ _ _ _ HOP0.out
                have d5 : w1.cell? ⟨wr.heap.size, 2, none⟩ = some (.int .i64 zn) := by simp [World.cell?, hop1]
                have d6 : (w1.alloc (.cells #[.pointer (some ⟨xb, 0, none⟩), .pointer (some ⟨yb, 0, none⟩)] 27)).cell? ⟨wr.heap.size, 2, none⟩ = some (.int .i64 zn) := (Below.cell ((Kept.refl w1).alloc _) (p := ⟨wr.heap.size, 2, none⟩) (heap_lt hop1)).trans d5
                clear f1 G0 q1 hop1 HOP0 T0
                unfold Tw.val
                go_wp2_with fail
                have k1 := (Kept.refl w1).alloc (.cells #[.pointer (some ⟨xb, 0, none⟩), .pointer (some ⟨yb, 0, none⟩)] 27)
                have G1 := Lib.hid (F1.out.still k1)
                have T1 := Lib.hid (rtwo_new w1 xb yb)
                clear k1 F1 d5 d6
                generalize w1.heap.size = g1 at T1 ⊢
                generalize w1.alloc (.cells #[.pointer (some ⟨xb, 0, none⟩), .pointer (some ⟨yb, 0, none⟩)] 27) = w6 at G1 T1 ⊢
                refine (G1.out.rturn g1 2 zn T1.out).mono ?_
                rintro e w2 ⟨rfl, vx2, vy2, f2⟩
                have F2 := Lib.hid f2
                clear f2 G1 T1
                unfold Tw.val
                generalize tw zn la lb = T at F2 ⊢
                go_wp2_with fail
                have XC : ∀ p : KW w2, p.v.cell? ⟨xb, 0, none⟩ = some vx2 := fun p => (F2.out.x.kept p.h).c0
                have YC : ∀ p : KW w2, p.v.cell? ⟨yb, 0, none⟩ = some vy2 := fun p => (F2.out.y.kept p.h).c0
                obtain ⟨xa, xc, hvx⟩ := F2.out.x.row.form
                obtain ⟨ya, yc, hvy⟩ := F2.out.y.row.form
                subst hvx hvy
                rw [txs_len] at XC YC
                have D1 : Hid (∀ p : KW w2, Calls Try.prog 24 #[.pointer (some ⟨ab, 0, none⟩)] p.v fun e w' => e = .returned (.int .i64 (T.l).length) ∧ Kept p.v w') := fun p => len_any _ _ _ _ _ (F2.out.a.kept p.h)
                have D2 : Hid (∀ p : KW w2, Calls Try.prog 25 #[.pointer (some ⟨ab, 0, none⟩)] p.v fun e w' => e = .returned (.int .i64 ((N : Int) - (T.l).length)) ∧ Kept p.v w') := fun p => room_any _ _ _ _ _ (F2.out.a.kept p.h)
                have D3 : Hid (∀ p : KW w2, Calls Try.prog 24 #[.pointer (some ⟨bb, 0, none⟩)] p.v fun e w' => e = .returned (.int .i64 (T.l').length) ∧ Kept p.v w') := fun p => len_any _ _ _ _ _ (F2.out.b.kept p.h)
                have few1 : ((T.l).length : Int) ≤ (N : Int) := by have := F2.out.a.few; omega
                generalize (T.l).length = na at XC D1 D2 few1
                generalize (T.l').length = nb at YC D3
                have nn : Nonempty (KW w2) := ⟨⟨w2, Kept.refl w2⟩⟩
                refine wp_region_kept (by kernel_rfl) (by kernel_rfl) ?_
                repeat (go_big_quiet_step ((first
                  | (go_at_call 24; first | (with_reducible exact KW.calls _ (D1.out _)) | (with_reducible exact KW.calls _ (D3.out _)))
                  | (go_at_call 25; with_reducible exact KW.calls _ (D2.out _)))))
                refine wpQuiet_nil ?_
                intro wt hwt
                obtain ⟨ux, uy, FT⟩ : ∃ ux uy, Hid (Four w wt N ab ac bb bc xb yb ux uy (T.l) (T.l') (T.l) (T.l')) := by
                  obtain ⟨p, rfl⟩ := hwt
                  exact ⟨_, _, F2.out.still p.h⟩
                clear hwt
                go_wp2
                go_roundw
                case rel => exact ⟨k + 1, _, _, _, _, _, _, _, by omega, by omega, by go_num, rfl, rfl, FT.out⟩
                case measure => simp [intOf]; omega
    · have hx : (k : Int) < len ∧ ¬ (k : Int) < 80 ∨ ¬ (k : Int) < len := by omega
      rcases hx with ⟨h1, h2⟩ | h1
      all_goals
        go_wp2_with fail
        refine (fix_any _).mono ?_
        rintro e w9 ⟨rfl, k9⟩
        have K9 := Lib.hid (F.out.kept.trans k9)
        clear k9
        go_wp2
        go_ret
        exact ⟨rfl, K9.out⟩
end Go.Proofs.Ytcachpcefeoolaa
