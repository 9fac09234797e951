/-
  The walk of the law DiskCrashes.
-/
import Derived.Test.YtedenkgjdmcafaaDfix
import Derived.Test.YtedenkgjdmcafaaDops
import Derived.Test.YtedenkgjdmcafaaVbits
namespace Go.Proofs.Ytedenkgjdmcafaa
open Go.ChangeShapes Go.WideShapes Go.ChangeAt Go.RowKit

/-- one disk is as it was when the block of another one turned -/
theorem Dsk.past {w w' : World} {base b base' b' : Nat} {K K' : Dk.Fl} {v v' : Value} {ws ws' : List Dk.W} (h : Dsk w base b K v ws) (o : Dsk w base' b' K' v' ws') (hb : b ≠ b') (k : But (fun i => i = b') w w') : Dsk w' base b K v ws :=
  h.but k hb fun i e he => by
    obtain ⟨_, cur, hg⟩ := h.row.blk e
    subst he
    have := o.blk
    rw [hg] at this
    cases this
theorem crash_fine {b base : Nat} {K K' : Dk.Fl} {v : Value} {ws : List Dk.W} (u n : Int) (w : World) (h : Dsk w base b K v ws) (u0 : -9223372036854775808 ≤ u) (u1 : u ≤ 9223372036854775807) (hn : ((min u.toNat (Dk.total ws) : Nat) : Int) = n) (hk : Dk.after K ws u.toNat = K') :
    Calls Try.prog 23 #[.pointer (some ⟨b, 0, none⟩), .int .i64 u] w fun e w' => e = .returned (.int .i64 n) ∧ Dsk w' base b K' (.slice none 0 0) [] ∧ But (fun i => i = b) w w' := by
  subst hn hk
  exact crash_disk u w u0 u1 h
theorem now_nil (K : Dk.Fl) (k : Nat) (h : k < 4) : (if 0 ≤ (k : Int) ∧ (k : Int) < 4 then Dk.after K [] (Dk.total []) (k : Int).toNat else ⟨#[]⟩) = K k := by
  rw [if_pos (by omega), Int.toNat_natCast]; rfl
theorem kept_at (K : Dk.Fl) (k : Nat) (h : k < 4) : (if 0 ≤ (k : Int) ∧ (k : Int) < 4 then K (k : Int).toNat else ⟨#[]⟩) = K k := by
  rw [if_pos (by omega), Int.toNat_natCast]
theorem now_at (K : Dk.Fl) (ws : List Dk.W) (k : Nat) (h : k < 4) : (if 0 ≤ (k : Int) ∧ (k : Int) < 4 then Dk.after K ws (Dk.total ws) (k : Int).toNat else ⟨#[]⟩) = Dk.after K ws (Dk.total ws) k := by
  rw [if_pos (by omega), Int.toNat_natCast]
/-- the cells of a script's call, in a world that kept the first one -/
theorem OpArg.cells {w wr : World} {av : Option Addr} {len cap : Nat} {z : Nat → OpV} (h : OpArg w av len cap z) (K : Kept w wr) {k : Nat} (hk : k < len) :
    ∃ b off, av = some ⟨b, off, none⟩ ∧ wr.cell? ⟨b, off + k * 4, none⟩ = some (.int .i64 (z k).kind) ∧ wr.cell? ⟨b, off + k * 4 + 1, none⟩ = some (.int .i64 (z k).file) ∧ wr.cell? ⟨b, off + k * 4 + 2, none⟩ = some (.string (z k).s) ∧ wr.cell? ⟨b, off + k * 4 + 3, none⟩ = some (.int .i64 (z k).n) ∧
      (z k).s.size ≤ 9223372036854775807 ∧ -9223372036854775808 ≤ (z k).n ∧ (z k).n ≤ 9223372036854775807 := by
  obtain ⟨b, off, e, hb, c0, c1, c2, c3, hs⟩ := h.at hk
  exact ⟨b, off, e, (Below.cell K (p := ⟨b, off + k * 4, none⟩) hb).trans c0, (Below.cell K (p := ⟨b, off + k * 4 + 1, none⟩) hb).trans c1, (Below.cell K (p := ⟨b, off + k * 4 + 2, none⟩) hb).trans c2, (Below.cell K (p := ⟨b, off + k * 4 + 3, none⟩) hb).trans c3, hs, (h.wf k).1, (h.wf k).2⟩

set_option maxHeartbeats 4000000 in
set_option maxRecDepth 100000 in
theorem dcrashes_walk (av : Option Addr) (len cap : Nat) (z : Nat → OpV) (n : Int) (w : World) (hz : OpArg w av len cap z) (_n0 : -9223372036854775808 ≤ n) (_n1 : n ≤ 9223372036854775807) :
    Calls Try.prog 4 #[.slice av len cap, .int .i64 n] w fun e w' => e = .returned (.bool true) ∧ Kept w w' := by
  have HZ := Lib.hid hz
  have hl1 := hz.1
  have hl2 := hz.2.1
  unfold maxLen at hl2
  clear hz
  have hm := and_mask n 65535 (by decide)
  simp only [Int.cast_ofNat_Int] at hm
  obtain ⟨M, hM⟩ : ∃ M : Nat, bits BinOp.and IntKind.i64 n 65535 = (M : Int) := ⟨(bits BinOp.and IntKind.i64 n 65535).toNat, by omega⟩
  rw [hM] at hm
  have HM := Lib.hid hM
  clear hM
  go_enter Try.func4, Try.ntmps4
  go_wp2_with fail
  refine (new_disk _).mono ?_
  rintro e w1 ⟨rfl, x1, k1⟩
  obtain ⟨base, hbase⟩ : ∃ base, base = w.heap.size := ⟨_, rfl⟩
  rw [← hbase] at x1 ⊢
  obtain ⟨b, hb⟩ : ∃ b, b = base := ⟨_, rfl⟩
  have x1 : Dsk w1 base b dk0 (.slice none 0 0) [] := by rw [hb]; exact x1
  rw [show (Value.pointer (some ⟨base, 0, none⟩)) = .pointer (some ⟨b, 0, none⟩) by rw [hb]]
  have HB : Hid (w.heap.size ≤ base) := by show _ ≤ _; omega
  have X1 := Lib.hid x1
  have K1 := Lib.hid k1
  clear x1 k1 hb hbase
  go_wp2
  go_loopw [6] (fun i wr => ∃ k : Nat, k ≤ len ∧ k ≤ 60 ∧ i = .int .i64 k ∧ Hid (Kept w wr ∧ ∃ K v ws, Dsk wr base b K v ws ∧ ws.length ≤ k)) (fun i _ => 60 - (intOf i).toNat)
  case atStart => exact ⟨0, Nat.zero_le _, Nat.zero_le _, rfl, K1.out, _, _, _, X1.out, Nat.zero_le _⟩
  case round =>
    obtain ⟨k, hk, hk60, rfl, HR⟩ := hrel
    by_cases hlt : k < len ∧ k < 60
    · obtain ⟨hlt1, hlt2⟩ := hlt
      obtain ⟨kr, K, v, ws, x, hwl⟩ := HR.out
      have X := Lib.hid x
      have KR := Lib.hid kr
      obtain ⟨B, off, rfl, c0, c1, c2, c3, hs, n0, n1⟩ := HZ.out.cells kr hlt1
      clear x kr HR
      generalize (z k).kind = kd at c0
      generalize (z k).file = f at c1
      generalize (z k).s = S at c2 hs
      generalize (z k).n = m at c3 n0 n1
      go_wp2_with fail
      refine (play_any kd f S m _ X.out (by omega) hs n0 n1).mono ?_
      rintro e w2 ⟨rfl, p⟩
      generalize Dk.step Dk.more K ws kd f (Dk.cut S) m = r at p ⊢
      obtain ⟨v', y, hl, _, fr⟩ := p
      have Y : Hid (Kept w w2 ∧ ∃ K v ws, Dsk w2 base b K v ws ∧ ws.length ≤ k + 1) := ⟨X.out.still HB.out KR.out fr, _, _, _, y, by omega⟩
      clear y fr X KR c0 c1 c2 c3
      go_wp2
      go_roundw
      case rel => exact ⟨k + 1, by omega, by omega, by go_num, Y.out⟩
      case measure => simp [intOf]; omega
    · obtain ⟨kr, K, v, ws, x, hwl⟩ := HR.out
      have X := Lib.hid x
      have KR := Lib.hid kr
      clear x kr HR X1 K1 HZ
      have hlt' : k = len ∨ k = 60 := by omega
      have hsm := X.out.small
      have h6 : len ≤ k ∨ 60 ≤ k := by omega
      go_wp2_with fail
      all_goals
        clear hlt' h6 hlt hl1 hl2
        refine (copy_disk _ X.out).mono ?_
        rintro e wa ⟨ba, va, rfl, xa, ka⟩
        have D1 := Lib.hid (X.out.kept ka)
        have A1 := Lib.hid xa
        have P1 := Lib.hid (KR.out.trans ka)
        have hda : b < ba := by have := heap_lt X.out.blk; have := xa.low; omega
        clear ka xa X KR
        go_wp2_with fail
        refine (copy_disk _ D1.out).mono ?_
        rintro e wb ⟨bb, vb, rfl, xb, kb⟩
        have D2 := Lib.hid (D1.out.kept kb)
        have A2 := Lib.hid (A1.out.kept kb)
        have B2 := Lib.hid xb
        have P2 := Lib.hid (P1.out.trans kb)
        have hab : ba < bb := by have := heap_lt A1.out.blk; have := xb.low; omega
        clear kb xb D1 A1 P1
        go_wp2_with fail
        refine (copy_disk _ D2.out).mono ?_
        rintro e wc ⟨bc, vc, rfl, xc, kc⟩
        have D3 := Lib.hid (D2.out.kept kc)
        have A3 := Lib.hid (A2.out.kept kc)
        have B3 := Lib.hid (B2.out.kept kc)
        have C3 := Lib.hid xc
        have P3 := Lib.hid (P2.out.trans kc)
        have hbc : bb < bc := by have := heap_lt B2.out.blk; have := xc.low; omega
        clear kc xc D2 A2 B2 P2
        go_wp2_with fail
        refine (copy_disk _ D3.out).mono ?_
        rintro e we ⟨be, ve, rfl, xe, ke⟩
        have D4 := Lib.hid (D3.out.kept ke)
        have A4 := Lib.hid (A3.out.kept ke)
        have B4 := Lib.hid (B3.out.kept ke)
        have C4 := Lib.hid (C3.out.kept ke)
        have E4 := Lib.hid xe
        have P4 := Lib.hid (P3.out.trans ke)
        have hce : bc < be := by have := heap_lt C3.out.blk; have := xe.low; omega
        have hwb : w.heap.size ≤ b := Nat.le_trans HB.out D4.out.low
        clear ke xe D3 A3 B3 C3 P3
        go_wp2_with fail
        refine (units_disk _ D4.out).mono ?_
        rintro e w5 ⟨rfl, k5⟩
        have D5 := Lib.hid (D4.out.kept k5)
        have A5 := Lib.hid (A4.out.kept k5)
        have B5 := Lib.hid (B4.out.kept k5)
        have C5 := Lib.hid (C4.out.kept k5)
        have E5 := Lib.hid (E4.out.kept k5)
        have P5 := Lib.hid (P4.out.trans k5)
        clear k5 D4 A4 B4 C4 E4 P4
        obtain ⟨T, hT⟩ : ∃ T, T = Dk.total ws := ⟨_, rfl⟩
        rw [← hT] at hsm ⊢
        have HT := Lib.hid hT
        clear hT
        go_wp2_with fail
        rw [HM.out]
        refine (crash_fine (K' := Dk.after K ws T) (T : Int) (T : Int) _ A5.out (by omega) (by omega) (by rw [← HT.out]; omega) rfl).mono ?_
        rintro e w6 ⟨rfl, a6, f6⟩
        have D6 := Lib.hid (D5.out.past A5.out (by omega) f6)
        have B6 := Lib.hid (B5.out.past A5.out (by omega) f6)
        have C6 := Lib.hid (C5.out.past A5.out (by omega) f6)
        have E6 := Lib.hid (E5.out.past A5.out (by omega) f6)
        have P6 := Lib.hid (But.after P5.out f6 fun i hi h => by omega)
        have A6 := Lib.hid a6
        clear a6 f6 D5 A5 B5 C5 E5 P5
        go_wp2_with fail
        refine (crash_fine (K' := K) 0 0 _ B6.out (by omega) (by omega) (by omega) (Dk.after_zero K ws)).mono ?_
        rintro e w7 ⟨rfl, b7, f7⟩
        have D7 := Lib.hid (D6.out.past B6.out (by omega) f7)
        have A7 := Lib.hid (A6.out.past B6.out (by omega) f7)
        have C7 := Lib.hid (C6.out.past B6.out (by omega) f7)
        have E7 := Lib.hid (E6.out.past B6.out (by omega) f7)
        have P7 := Lib.hid (But.after P6.out f7 fun i hi h => by omega)
        have B7 := Lib.hid b7
        clear b7 f7 D6 A6 B6 C6 E6 P6
        go_wp2_with fail
        refine (crash_fine (K' := Dk.after K ws M) (M : Int) (min (M : Int) (T : Int)) _ C7.out (by omega) (by omega) (by rw [← HT.out]; omega) rfl).mono ?_
        rintro e w8 ⟨rfl, c8, f8⟩
        have D8 := Lib.hid (D7.out.past C7.out (by omega) f8)
        have A8 := Lib.hid (A7.out.past C7.out (by omega) f8)
        have B8 := Lib.hid (B7.out.past C7.out (by omega) f8)
        have E8 := Lib.hid (E7.out.past C7.out (by omega) f8)
        have P8 := Lib.hid (But.after P7.out f8 fun i hi h => by omega)
        have C8 := Lib.hid c8
        clear c8 f8 D7 A7 B7 C7 E7 P7
        go_wp2_with fail
        refine (crash_fine (K' := K) (-1) 0 _ E8.out (by omega) (by omega) (by rw [show (-1 : Int).toNat = 0 from rfl]; omega) (by rw [show (-1 : Int).toNat = 0 from rfl]; exact Dk.after_zero K ws)).mono ?_
        rintro e w9 ⟨rfl, e9, f9⟩
        have D9 := Lib.hid (D8.out.past E8.out (by omega) f9)
        have A9 := Lib.hid (A8.out.past E8.out (by omega) f9)
        have B9 := Lib.hid (B8.out.past E8.out (by omega) f9)
        have C9 := Lib.hid (C8.out.past E8.out (by omega) f9)
        have P9 := Lib.hid (But.after P8.out f9 fun i hi h => by omega)
        have E9 := Lib.hid e9
        clear e9 f9 D8 A8 B8 C8 E8 P8
        have HWC : Hid (w.heap.size ≤ bc) := by show _ ≤ _; omega
        clear hda hab hbc hce hwb
        rw [HT.out] at A9
        go_wp2
        go_loopw [13] (fun i wr => ∃ j : Nat, j ≤ 4 ∧ i = .int .i64 j ∧ Hid (Kept w9 wr)) (fun i _ => 4 - (intOf i).toNat)
        case atStart => exact ⟨0, Nat.zero_le _, rfl, Kept.refl _⟩
        case round =>
        obtain ⟨j, hj, rfl, R0⟩ := hrel
        by_cases hj4 : j < 4
        · skip
          go_wp2_with fail
          refine (read_is (j : Int) (Dk.after K ws (Dk.total ws) j) _ (A9.out.kept R0.out) (now_nil _ j hj4)).mono ?_
          rintro e r1 ⟨rfl, k⟩
          have R1 := Lib.hid (R0.out.trans k)
          clear k R0
          go_wp2_with fail
          refine (read_is (j : Int) (Dk.after K ws (Dk.total ws) j) _ (D9.out.kept R1.out) (now_at _ _ j hj4)).mono ?_
          rintro e r2 ⟨rfl, k⟩
          have R2 := Lib.hid (R1.out.trans k)
          clear k R1
          go_wp2_with fail
          refine (read_is (j : Int) (K j) _ (B9.out.kept R2.out) (now_nil _ j hj4)).mono ?_
          rintro e r3 ⟨rfl, k⟩
          have R3 := Lib.hid (R2.out.trans k)
          clear k R2
          go_wp2_with fail
          refine (kept_is (j : Int) (K j) _ (D9.out.kept R3.out) (kept_at _ j hj4)).mono ?_
          rintro e r4 ⟨rfl, k⟩
          have R4 := Lib.hid (R3.out.trans k)
          clear k R3
          go_wp2_with fail
          refine (read_is (j : Int) (K j) _ (E9.out.kept R4.out) (now_nil _ j hj4)).mono ?_
          rintro e r5 ⟨rfl, k⟩
          have R5 := Lib.hid (R4.out.trans k)
          clear k R4
          go_wp2_with fail
          refine (kept_is (j : Int) (K j) _ (D9.out.kept R5.out) (kept_at _ j hj4)).mono ?_
          rintro e r6 ⟨rfl, k⟩
          have R6 := Lib.hid (R5.out.trans k)
          clear k R5
          go_wp2_with fail
          refine (read_is (j : Int) (Dk.after K ws M j) _ (C9.out.kept R6.out) (now_nil _ j hj4)).mono ?_
          rintro e r7 ⟨rfl, k⟩
          have R7 := Lib.hid (R6.out.trans k)
          clear k R6
          go_wp2_with fail
          refine (kept_is (j : Int) (Dk.after K ws M j) _ (C9.out.kept R7.out) (kept_at _ j hj4)).mono ?_
          rintro e r8 ⟨rfl, k⟩
          have R8 := Lib.hid (R7.out.trans k)
          clear k R7
          go_wp2
          go_roundw
          case rel => exact ⟨j + 1, by omega, by go_num, R8.out⟩
          case measure => simp [intOf]; omega
        · have hjj : j = 4 := by omega
          subst hjj
          go_wp2_with fail
          refine (read_is 0 (Dk.after K ws M 0) _ (C9.out.kept R0.out) (by simp [Dk.after])).mono ?_
          rintro e r1 ⟨rfl, k⟩
          have R1 := Lib.hid (R0.out.trans k)
          clear k R0
          go_wp2_with fail
          refine (units_is 0 _ (A9.out.kept R1.out) rfl).mono ?_
          rintro e r2 ⟨rfl, k⟩
          have R2 := Lib.hid (R1.out.trans k)
          clear k R1
          go_wp2_with fail
          refine (units_is 0 _ (C9.out.kept R2.out) rfl).mono ?_
          rintro e r3 ⟨rfl, k⟩
          have R3 := Lib.hid (R2.out.trans k)
          clear k R2
          go_wp2_with fail
          refine (crash_fine (K' := Dk.after K ws M) 0 0 _ (C9.out.kept R3.out) (by omega) (by omega) rfl rfl).mono ?_
          rintro e r4 ⟨rfl, c4, f4⟩
          have P4 := Lib.hid (But.after (P9.out.trans R3.out) f4 fun i hi h => by have := HWC.out; omega)
          have C4 := Lib.hid c4
          clear c4 f4 R3
          go_wp2_with fail
          refine (read_is 0 (Dk.after K ws M 0) _ C4.out (by simp [Dk.after])).mono ?_
          rintro e r5 ⟨rfl, k⟩
          have P5 := Lib.hid (P4.out.trans k)
          clear k P4
          go_wp2_with fail
          refine (fix_any _).mono ?_
          rintro e r6 ⟨rfl, k⟩
          have P6 := Lib.hid (P5.out.trans k)
          clear k P5
          go_wp2
          go_ret
          exact ⟨rfl, P6.out⟩
end Go.Proofs.Ytedenkgjdmcafaa
