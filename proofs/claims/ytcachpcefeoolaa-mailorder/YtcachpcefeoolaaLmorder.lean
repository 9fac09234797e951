/-
  The walk of the law MailOrder.
-/
import Derived.Test.YtcachpcefeoolaaMoff
import Derived.Test.YtcachpcefeoolaaMops
import Derived.Test.YtcachpcefeoolaaVbits
namespace Go.Proofs.Ytcachpcefeoolaa
open Go.ChangeShapes Go.WideShapes Go.ChangeAt Go.RowKit

set_option maxHeartbeats 2000000 in
set_option maxRecDepth 100000 in
theorem morder_walk (size : Int) (av : Option Addr) (len cap : Nat) (z : Nat → OpV) (w : World) (_s0 : -9223372036854775808 ≤ size) (_s1 : size ≤ 9223372036854775807) (hz : OpArg w av len cap z) :
    Calls Try.prog 5 #[.int .i64 size, .slice av len cap] w fun e w' => e = .returned (.bool true) ∧ Kept w w' := by
  have hm := and_mask size 15 (by decide)
  simp only [Int.cast_ofNat_Int] at hm
  obtain ⟨M, hM⟩ : ∃ M : Nat, bits BinOp.and IntKind.i64 size 15 = (M : Int) := ⟨(bits BinOp.and IntKind.i64 size 15).toNat, by omega⟩
  rw [hM] at hm
  have HZ := Lib.hid hz
  have hl1 := hz.1
  have hl2 := hz.2.1
  clear hz
  go_enter Try.func5, Try.ntmps5
  go_wp2_with fail
  obtain ⟨N, hN⟩ : ∃ N : Nat, 1 + (M : Int) = (N : Int) := ⟨M + 1, by omega⟩
  rw [hN]
  refine (new_ok N w (by omega) (by omega)).mono ?_
  rintro e w1 ⟨b, c, rfl, hb, hc, x1, k1⟩
  have hN16 : N ≤ 16 := by omega
  clear hN hM hm
  have X1 := Lib.hid x1
  have K1 := Lib.hid k1
  clear x1 k1
  go_wp2
  obtain ⟨wi, ewi⟩ : ∃ wi, wi = (w1.alloc (.cells #[] 9)).alloc (.cells #[] 9) := ⟨_, rfl⟩
  have ki : Kept w1 wi := by rw [ewi]; exact ((Kept.refl w1).alloc _).alloc _
  have hin0 : OffS wi w.heap.size (.slice (some ⟨w1.heap.size, 0, none⟩) 0 0) [] := by rw [ewi]; exact ((own_empty' w1).off.mono K1.out.size).kept ((Kept.refl _).alloc _)
  have hout0 : OffS wi w.heap.size (.slice (some ⟨w1.heap.size + 1, 0, none⟩) 0 0) [] := by
    have := (own_empty' (w1.alloc (.cells #[] 9))).off
    rw [World.size_alloc] at this
    rw [ewi]
    exact this.mono (by have := K1.out.size; omega)
  have hap0 : Apart2 (.slice (some ⟨w1.heap.size, 0, none⟩) 0 0) (.slice (some ⟨w1.heap.size + 1, 0, none⟩) 0 0) := by intro i h1 h2; cases h1; simp [Value.ownBlock] at h2
  have Xi := Lib.hid (X1.out.kept ki)
  have Ki := Lib.hid (K1.out.trans ki)
  have I0 := Lib.hid hin0
  have O0 := Lib.hid hout0
  have A0 := Lib.hid hap0
  clear hin0 hout0 hap0 X1 K1 ki
  rw [← ewi]
  clear ewi
  go_loopw [7, 8, 9] (fun vi vo i wr => ∃ (k : Nat) (O l : List ByteArray), k ≤ len ∧ k ≤ 60 ∧ i = .int .i64 k ∧ OffS wr w.heap.size vi (txs (O ++ l)) ∧ OffS wr w.heap.size vo (txs O) ∧ Apart2 vi vo ∧ O.length + l.length ≤ k ∧ Bx wr b c N l ∧ Kept w wr) (fun _ _ i _ => 60 - (intOf i).toNat)
  case atStart => exact ⟨0, [], [], Nat.zero_le _, Nat.zero_le _, rfl, I0.out, O0.out, A0.out, Nat.le_refl _, Xi.out, Ki.out⟩
  case round =>
    obtain ⟨k, O, l, hk, hk60, rfl, hvi, hvo, hap, hol, hx, hkr⟩ := hrel
    have X := Lib.hid hx
    have K := Lib.hid hkr
    have VI := Lib.hid hvi
    have VO := Lib.hid hvo
    have AP := Lib.hid hap
    obtain ⟨ai, ci, rfl⟩ := hvi.form
    obtain ⟨ao, co, rfl⟩ := hvo.form
    obtain ⟨nO, hnO⟩ : ∃ n, n = O.length := ⟨_, rfl⟩
    obtain ⟨nI, hnI⟩ : ∃ n, n = O.length + l.length := ⟨_, rfl⟩
    have tl : (txs O).length = nO := by rw [txs_len, hnO]
    have tl2 : (txs (O ++ l)).length = nI := by rw [txs_len, List.length_append, hnI]
    rw [← hnO] at hol hnI
    rw [tl] at VO AP ⊢
    rw [tl2] at VI AP ⊢
    have HnI := Lib.hid hnI
    have HnO := Lib.hid hnO
    have hnO60 : nO ≤ 60 := by omega
    have hnI60 : nI ≤ 60 := by omega
    clear hx hkr hvi hvo hap hnI hnO
    by_cases hlt : k < len ∧ k < 60
    · obtain ⟨hlt1, hlt2⟩ := hlt
      obtain ⟨B, off, rfl, hB, c0, c1, c2, hs⟩ := HZ.out.at hlt1
      have d0 := (Below.cell K.out (p := ⟨B, off + k * 3, none⟩) hB).trans c0
      have d1 := (Below.cell K.out (p := ⟨B, off + k * 3 + 1, none⟩) hB).trans c1
      have C0 := Lib.hid c0
      clear c0 c1 c2
      generalize (z k).kind = kd at d0 C0
      generalize (z k).s = S at d1 hs
      have mb1 : 0 ≤ min (S.size : Int) 40 := by omega
      have mb2 : min (S.size : Int) 40 ≤ (S.size : Int) := by omega
      have sb : (S.extract 0 (min (S.size : Int) 40).toNat).size ≤ 40 := by rw [ByteArray.size_extract]; omega
      go_wp2
      go_quiet (fail)
      have kq : Kept wr (wr.drewN nq) := below_drewN (Kept.refl wr) nq
      generalize wr.drewN nq = wq at kq ⊢
      have Xq := Lib.hid (X.out.kept kq)
      have Kq := Lib.hid (K.out.trans kq)
      have VIq := Lib.hid (VI.out.kept kq)
      have VOq := Lib.hid (VO.out.kept kq)
      have hbq : w.heap.size ≤ wq.heap.size := Kq.out.size
      have q0 := (Below.cell Kq.out (p := ⟨B, off + k * 3, none⟩) hB).trans C0.out
      clear kq X K VI VO d0 d1 C0
      by_cases hkd : kd = 1
      · have e1 : (kd == 1) = true := by simpa using hkd
        cases l with
        | nil =>
          have hnn : nI = nO := by have := HnI.out; simpa using this
          subst hnn
          go_wp2_with fail
          refine (take_none b c N _ Xq.out).mono ?_
          rintro e w2 ⟨rfl, k2⟩
          have X2 := Lib.hid (Xq.out.kept k2)
          have K2 := Lib.hid (Kq.out.trans k2)
          have VI2 := Lib.hid (VIq.out.kept k2)
          have VO2 := Lib.hid (VOq.out.kept k2)
          clear k2 Xq Kq VIq VOq
          go_wp2
          go_roundw
          case rel => exact ⟨k + 1, O, [], by omega, by omega, by go_num, VI2.out, VO2.out, AP.out, by rw [← HnO.out]; simp; omega, X2.out, K2.out⟩
          case measure => simp [intOf]; omega
        | cons x l =>
          have hlt3 : nO < nI := by have := HnI.out; rw [List.length_cons] at this; omega
          go_wp2_with fail
          refine (take_some b c N x l _ Xq.out).mono ?_
          rintro e w2 ⟨rfl, x2, b2⟩
          have X2 := Lib.hid x2
          have K2 := Lib.hid (But.after Kq.out b2 fun i hi h => by omega)
          have VI2 := Lib.hid (VIq.out.over Xq.out.ch b2)
          have VO2 := Lib.hid (VOq.out.over Xq.out.ch b2)
          have hb2 : w.heap.size ≤ w2.heap.size := K2.out.size
          clear x2 b2 Xq Kq VIq VOq
          have ka := (Kept.refl w2).alloc (.cells #[.string x] 9)
          go_wp2_with (first
            | (at_builtin
               refine wp_app (VO2.out.kept ka) (strs_one w2 x) (by rw [tl]; simp; omega) (by rw [World.size_alloc]; omega) rfl _ _ rfl rfl rfl ?_; intro v3 w3 o3 g3 b3 n3
               have O3 := Lib.hid o3
               have G3 := Lib.hid g3
               have B3 := Lib.hid b3
               clear o3 g3 b3 n3
               go_frame)
            | fail)
          go_roundw
          case rel =>
            refine ⟨k + 1, O ++ [x], l, by omega, by omega, by go_num, ?_, ?_, ?_, by have h1 := HnI.out; have h2 := hol; rw [List.length_cons] at h1 h2; rw [List.length_append, List.length_singleton, ← HnO.out]; omega, (X2.out.kept ka).off (VO2.out.kept ka) B3.out, kept_off (K2.out.trans ka) (VO2.out.kept ka) (Nat.le_refl _) B3.out⟩
            · rw [List.append_assoc, List.singleton_append]; exact (VI2.out.kept ka).other AP.out.symm B3.out
            · rw [txs_snoc]; exact O3.out
            · exact (AP.out.symm.went G3.out (VI2.out.kept ka)).symm
          case measure => simp [intOf]; omega
      · have e1 : (kd == 1) = false := by simpa using hkd
        by_cases hfull : l.length < N
        · go_wp2_with fail
          generalize hE : S.extract 0 (min (S.size : Int) 40).toNat = E at sb ⊢
          refine (put_room b c N l E _ Xq.out (by omega) hfull).mono ?_
          rintro e w2 ⟨rfl, x2, b2⟩
          have X2 := Lib.hid x2
          have K2 := Lib.hid (But.after Kq.out b2 fun i hi h => by omega)
          have VI2 := Lib.hid (VIq.out.over Xq.out.ch b2)
          have VO2 := Lib.hid (VOq.out.over Xq.out.ch b2)
          have hb2 : w.heap.size ≤ w2.heap.size := K2.out.size
          clear x2 b2 Xq Kq VIq VOq
          have ka := (Kept.refl w2).alloc (.cells #[.string E] 9)
          go_wp2_with (first
            | (at_builtin
               refine wp_app (VI2.out.kept ka) (strs_one w2 E) (by rw [tl2]; simp; omega) (by rw [World.size_alloc]; omega) rfl _ _ rfl rfl rfl ?_; intro v3 w3 o3 g3 b3 n3
               obtain ⟨a3, c3, rfl⟩ := o3.form
               rw [List.length_append, tl2, List.length_singleton] at o3 g3 ⊢
               have O3 := Lib.hid o3
               have G3 := Lib.hid g3
               have B3 := Lib.hid b3
               clear o3 g3 b3 n3
               go_frame)
            | fail)
          have X3 := Lib.hid ((X2.out.kept ka).off (VI2.out.kept ka) B3.out)
          have K3 := Lib.hid (kept_off (K2.out.trans ka) (VI2.out.kept ka) (Nat.le_refl _) B3.out)
          have VO3 := Lib.hid ((VO2.out.kept ka).other AP.out B3.out)
          have AP3 := Lib.hid (AP.out.went G3.out (VO2.out.kept ka))
          refine (len_any b c N _ _ X3.out).mono ?_
          rintro e w4 ⟨rfl, k4⟩
          have X4 := Lib.hid (X3.out.kept k4)
          have K4 := Lib.hid (K3.out.trans k4)
          have VI4 := Lib.hid (O3.out.kept k4)
          have VO4 := Lib.hid (VO3.out.kept k4)
          have hl1 : (l ++ [E]).length = l.length + 1 := by rw [List.length_append, List.length_singleton]
          rw [hl1]
          clear k4 X3 K3 VO3 O3 B3 X2 K2 VI2 VO2 G3
          have q1 : (((l.length + 1 : Nat) : Int) == ((nI + 1 : Nat) : Int) - (nO : Int)) = true := by rw [beq_iff_eq]; have := HnI.out; omega
          have q2 : (((l.length + 1 : Nat) : Int) != ((nI + 1 : Nat) : Int) - (nO : Int)) = false := by simp only [bne, q1]; rfl
          go_wp2
          go_roundw
          case rel => exact ⟨k + 1, O, l ++ [E], by omega, by omega, by go_num, by rw [← List.append_assoc, txs_snoc]; exact VI4.out, VO4.out, AP3.out, by rw [← HnO.out, hl1]; omega, X4.out, K4.out⟩
          case measure => simp [intOf]; omega
        · go_wp2_with fail
          refine (put_full b c N l _ _ Xq.out (by omega) (by omega)).mono ?_
          rintro e w2 ⟨rfl, k2⟩
          have X2 := Lib.hid (Xq.out.kept k2)
          have K2 := Lib.hid (Kq.out.trans k2)
          have VI2 := Lib.hid (VIq.out.kept k2)
          have VO2 := Lib.hid (VOq.out.kept k2)
          clear k2 Xq Kq VIq VOq
          go_wp2_with fail
          refine (len_any b c N l _ X2.out).mono ?_
          rintro e w3 ⟨rfl, k3⟩
          have X3 := Lib.hid (X2.out.kept k3)
          have K3 := Lib.hid (K2.out.trans k3)
          have VI3 := Lib.hid (VI2.out.kept k3)
          have VO3 := Lib.hid (VO2.out.kept k3)
          clear k3 X2 K2 VI2 VO2
          have q1 : ((l.length : Int) == (nI : Int) - (nO : Int)) = true := by rw [beq_iff_eq]; have := HnI.out; omega
          have q2 : ((l.length : Int) != (nI : Int) - (nO : Int)) = false := by simp only [bne, q1]; rfl
          go_wp2
          go_roundw
          case rel => exact ⟨k + 1, O, l, by omega, by omega, by go_num, VI3.out, VO3.out, AP.out, by rw [← HnO.out]; omega, X3.out, K3.out⟩
          case measure => simp [intOf]; omega
    · have hx : (k : Int) < len ∧ ¬ (k : Int) < 60 ∨ ¬ (k : Int) < len := by omega
      rcases hx with ⟨h1, h2⟩ | h1
      all_goals
        go_wp2_with fail
        refine (all_any b c N l _ X.out).mono ?_
        rintro e w4 ⟨xv, rfl, o4, x4, b4⟩
        have X4 := Lib.hid x4
        have K4 := Lib.hid (But.after K.out b4 fun i hi h => by omega)
        have VI4 := Lib.hid (VI.out.over X.out.ch b4)
        have VO4 := Lib.hid (VO.out.over X.out.ch b4)
        have S4 := Lib.hid o4.strs
        have hb4 : w.heap.size ≤ w4.heap.size := K4.out.size
        have hll : (txs l).length ≤ 60 := by rw [txs_len]; omega
        clear o4 x4 b4 X K VI VO
        go_wp2_with (first
          | (at_builtin
             refine wp_app VO4.out S4.out (by rw [tl]; omega) hb4 rfl _ _ rfl rfl rfl ?_; intro v5 w5 o5 g5 b5 n5
             have O5 := Lib.hid o5
             have X5 := Lib.hid (X4.out.off VO4.out b5)
             have K5 := Lib.hid (kept_off K4.out VO4.out (Nat.le_refl _) b5)
             have VI5 := Lib.hid (VI4.out.other AP.out.symm b5)
             clear o5 g5 b5 n5
             go_frame)
          | fail)
        refine (same_any _ _ _ _ _ VI5.out.strs O5.out.strs).mono ?_
        rintro e w6 ⟨rfl, k6⟩
        have X6 := Lib.hid (X5.out.kept k6)
        have K6 := Lib.hid (K5.out.trans k6)
        clear k6 X5 K5 VI5 O5 S4 VI4 VO4 X4 K4
        rw [show (txs (O ++ l) == txs O ++ txs l) = true from by simp [txs]]
        go_wp2_with fail
        refine (len_any b c N [] _ X6.out).mono ?_
        rintro e w7 ⟨rfl, k7⟩
        have K7 := Lib.hid (K6.out.trans k7)
        clear k7 X6 K6
        go_wp2_with fail
        refine (fix_any _).mono ?_
        rintro e w8 ⟨rfl, k8⟩
        have K8 := Lib.hid (K7.out.trans k8)
        clear k8
        go_wp2
        go_ret
        exact ⟨rfl, K8.out⟩
end Go.Proofs.Ytcachpcefeoolaa
