/-
  The walk of the law DiskApart. Written by wip/mkdapart.py.
-/
import Derived.Test.YtedenkgjdmcafaaLdcrashes
namespace Go.Proofs.Ytedenkgjdmcafaa
open Go.ChangeShapes Go.WideShapes Go.ChangeAt Go.RowKit

theorem now_add (K : Dk.Fl) (ws : List Dk.W) (f : Nat) (s : ByteArray) : Dk.after K (Dk.more ws ⟨f, s, false⟩) (Dk.total (Dk.more ws ⟨f, s, false⟩)) = fun i => if i = f then Dk.after K ws (Dk.total ws) i ++ s else Dk.after K ws (Dk.total ws) i := by
  unfold Dk.more
  by_cases h : Dk.units ⟨f, s, false⟩ = 0
  · rw [if_pos h]
    have hs : s = ByteArray.empty := by
      have : s.size = 0 := by simpa [Dk.units] using h
      exact ByteArray.ext (Array.eq_empty_of_size_eq_zero this)
    subst hs
    funext i
    rw [Dk.append_none]
    simp
  · rw [if_neg h, Dk.now_snoc, Dk.put_all]
    funext i
    simp
theorem now_swap (K : Dk.Fl) (ws : List Dk.W) (f : Nat) (s : ByteArray) : Dk.after K (Dk.more ws ⟨f, s, true⟩) (Dk.total (Dk.more ws ⟨f, s, true⟩)) = fun i => if i = f then s else Dk.after K ws (Dk.total ws) i := by
  unfold Dk.more
  rw [if_neg (by simp [Dk.units]), Dk.now_snoc, Dk.put_all]
  funext i
  simp
theorem strcell {w : World} {b : Nat} {t : TypeId} {F : Dk.Fl} (h : w.heap[b]? = some (.cells #[.string (F 0), .string (F 1), .string (F 2), .string (F 3)] t (0, 0))) (j : Nat) (hj : j < 4) : w.cell? ⟨b, j, none⟩ = some (.string (F j)) := by
  rcases (by omega : j = 0 ∨ j = 1 ∨ j = 2 ∨ j = 3) with rfl | rfl | rfl | rfl <;> simp [World.cell?, h]

theorem step_app (K : Dk.Fl) (ws : List Dk.W) (F : Nat) (C : ByteArray) (m : Int) (hF : F < 4) (h1 : (Dk.after K ws (Dk.total ws) F).size + C.size ≤ 65536) : Dk.step Dk.more K ws 0 (F : Int) C m = (K, Dk.more ws ⟨F, C, false⟩, 0) := by
  unfold Dk.step
  have e : Dk.ansA (Dk.after K ws (Dk.total ws)) (F : Int) C = 0 := by unfold Dk.ansA; rw [if_pos ⟨by omega, by omega⟩, Int.toNat_natCast, if_pos h1]
  rw [if_pos rfl, e, if_pos rfl, Int.toNat_natCast]
theorem step_rep (K : Dk.Fl) (ws : List Dk.W) (F : Nat) (C : ByteArray) (m : Int) (hF : F < 4) (h1 : C.size ≤ 65536) : Dk.step Dk.more K ws 1 (F : Int) C m = (K, Dk.more ws ⟨F, C, true⟩, 0) := by
  unfold Dk.step
  have e : Dk.ansR (F : Int) C = 0 := by unfold Dk.ansR; rw [if_pos ⟨by omega, by omega⟩, if_pos h1]
  rw [if_neg (by decide), if_pos rfl, e, if_pos rfl, Int.toNat_natCast]
theorem step_bad0 (K : Dk.Fl) (ws : List Dk.W) (f : Int) (C : ByteArray) (m : Int) (h : ¬ (0 ≤ f ∧ f < 4)) : Dk.step Dk.more K ws 0 f C m = (K, ws, 1) := by
  unfold Dk.step
  have e : Dk.ansA (Dk.after K ws (Dk.total ws)) f C = 1 := by unfold Dk.ansA; rw [if_neg h]
  rw [if_pos rfl, e, if_neg (by decide)]
theorem step_bad1 (K : Dk.Fl) (ws : List Dk.W) (f : Int) (C : ByteArray) (m : Int) (h : ¬ (0 ≤ f ∧ f < 4)) : Dk.step Dk.more K ws 1 f C m = (K, ws, 1) := by
  unfold Dk.step
  have e : Dk.ansR f C = 1 := by unfold Dk.ansR; rw [if_neg h]
  rw [if_neg (by decide), if_pos rfl, e, if_neg (by decide)]

/-- what stands ahead of each round -/
def Apa (w wr : World) (base b : Nat) (k : Nat) : Prop := Kept w wr ∧ ∃ K v ws, Dsk wr base b K v ws ∧ ws.length ≤ k ∧ ∀ i, (Dk.after K ws (Dk.total ws) i).size ≤ 60 * k

set_option maxHeartbeats 4000000 in
set_option maxRecDepth 100000 in
theorem dapart_walk (av : Option Addr) (len cap : Nat) (z : Nat → OpV) (w : World) (hz : OpArg w av len cap z) :
    Calls Try.prog 8 #[.slice av len cap] w fun e w' => e = .returned (.bool true) ∧ Kept w w' := by
  have HZ := Lib.hid hz
  have hl1 := hz.1
  have hl2 := hz.2.1
  unfold maxLen at hl2
  clear hz
  go_enter Try.func8, Try.ntmps8
  go_wp2_with fail
  refine (new_disk _).mono ?_
  rintro e w1 ⟨rfl, x1, k1⟩
  obtain ⟨base, hbase⟩ : ∃ base, base = w.heap.size := ⟨_, rfl⟩
  rw [← hbase] at x1 ⊢
  obtain ⟨b, hb⟩ : ∃ b, b = base := ⟨_, rfl⟩
  have x1 : Dsk w1 base b dk0 (.slice none 0 0) [] := by rw [hb]; exact x1
  rw [show (Value.pointer (some ⟨base, 0, none⟩)) = .pointer (some ⟨b, 0, none⟩) by rw [hb]]
  have HB : Hid (w.heap.size ≤ base) := by show _ ≤ _; omega
  have A1 : Hid (Apa w w1 base b 0) := ⟨k1, _, _, _, x1, Nat.zero_le _, fun _ => Nat.zero_le _⟩
  clear x1 k1 hb hbase
  go_wp2
  go_loopw [4] (fun i wr => ∃ k : Nat, k ≤ len ∧ k ≤ 60 ∧ i = .int .i64 k ∧ Hid (Apa w wr base b k)) (fun i _ => 60 - (intOf i).toNat)
  case atStart => exact ⟨0, Nat.zero_le _, Nat.zero_le _, rfl, A1⟩
  case round =>
    obtain ⟨k, hk, hk60, rfl, HR⟩ := hrel
    by_cases hlt : k < len ∧ k < 60
    · obtain ⟨hlt1, hlt2⟩ := hlt
      obtain ⟨kr, K, v, ws, x, hwl, hsz⟩ := HR.out
      have X := Lib.hid x
      have KR := Lib.hid kr
      obtain ⟨B, off, rfl, c0, c1, c2, c3, hs, n0, n1⟩ := HZ.out.cells kr hlt1
      clear x kr A1
      generalize (z k).kind = kd at c0
      generalize (z k).file = f at c1
      generalize (z k).s = S at c2 hs
      generalize (z k).n = m at c3 n0 n1
      obtain ⟨N, hN⟩ : ∃ N, N = Dk.after K ws (Dk.total ws) := ⟨_, rfl⟩
      rw [← hN] at hsz
      have HN := Lib.hid hN
      have HSZ := Lib.hid hsz
      clear hN hsz
      have hbr : b < wr.heap.size := heap_lt X.out.blk
      have mb1 : 0 ≤ min (S.size : Int) 60 := by omega
      have mb2 : min (S.size : Int) 60 ≤ (S.size : Int) := by omega
      have HT : Hid ((min (S.size : Int) 60).toNat = min S.size 60) := by show _ = _; omega
      have EC : Hid (S.extract 0 (min S.size 60) = Dk.cut S) := Lib.hid rfl
      have hc := Dk.cut_size S
      by_cases h0 : kd = 0
      · subst h0
        by_cases hf : 0 ≤ f ∧ f < 4
        · obtain ⟨wo, rfl⟩ : ∃ wo, wo = wr := ⟨_, rfl⟩
          obtain ⟨W1, hW1⟩ : ∃ W1, W1 = wo.alloc (.cells #[.int .i64 0, .int .i64 f, .string S, .int .i64 m] 31) := ⟨_, rfl⟩
          have k1 : Kept wo W1 := by rw [hW1]; exact (Kept.refl wo).alloc _
          have o1 : W1.heap[wo.heap.size]? = some (.cells #[.int .i64 0, .int .i64 f, .string S, .int .i64 m] 31 (0, 0)) := by rw [hW1]; exact heap_alloc_new wo _
          have KW1 := Lib.hid k1
          have O1 := Lib.hid o1
          have HW1 := Lib.hid hW1
          clear k1 o1 hW1
          have HF := Lib.hid hf
          clear hf
          have R0 := Lib.hid (Kept.refl W1)
          go_wp2_with fail
          rw [← HW1.out]
          refine (read_is 0 (N 0) _ (X.out.kept (KW1.out.trans R0.out)) (by rw [HN.out]; rfl)).mono ?_
          rintro e r1 ⟨rfl, k0⟩
          have R1 := Lib.hid (R0.out.trans k0)
          clear k0 R0
          go_wp2_with fail
          refine (read_is 1 (N 1) _ (X.out.kept (KW1.out.trans R1.out)) (by rw [HN.out]; rfl)).mono ?_
          rintro e r2 ⟨rfl, k0⟩
          have R2 := Lib.hid (R1.out.trans k0)
          clear k0 R1
          go_wp2_with fail
          refine (read_is 2 (N 2) _ (X.out.kept (KW1.out.trans R2.out)) (by rw [HN.out]; rfl)).mono ?_
          rintro e r3 ⟨rfl, k0⟩
          have R3 := Lib.hid (R2.out.trans k0)
          clear k0 R2
          go_wp2_with fail
          refine (read_is 3 (N 3) _ (X.out.kept (KW1.out.trans R3.out)) (by rw [HN.out]; rfl)).mono ?_
          rintro e r4 ⟨rfl, k0⟩
          have R4 := Lib.hid (R3.out.trans k0)
          clear k0 R3
          obtain ⟨W2, hW2⟩ : ∃ W2, W2 = r4.alloc (.cells #[.string (N 0), .string (N 1), .string (N 2), .string (N 3)] 26) := ⟨_, rfl⟩
          have k2 : Kept r4 W2 := by rw [hW2]; exact (Kept.refl r4).alloc _
          have o2 : W2.heap[r4.heap.size]? = some (.cells #[.string (N 0), .string (N 1), .string (N 2), .string (N 3)] 26 (0, 0)) := by rw [hW2]; exact heap_alloc_new r4 _
          have p1 := (Below.block R4.out _ (heap_lt O1.out)).trans O1.out
          have g0 : r4.cell? ⟨wo.heap.size, 0, none⟩ = some (.int .i64 0) := by simp [World.cell?, p1]
          have g1 : r4.cell? ⟨wo.heap.size, 1, none⟩ = some (.int .i64 f) := by simp [World.cell?, p1]
          have g2 : r4.cell? ⟨wo.heap.size, 2, none⟩ = some (.string S) := by simp [World.cell?, p1]
          have g3 : r4.cell? ⟨wo.heap.size, 3, none⟩ = some (.int .i64 m) := by simp [World.cell?, p1]
          have KW2 := Lib.hid k2
          have O2 := Lib.hid o2
          have P2 := Lib.hid ((Below.block k2 _ (heap_lt p1)).trans p1)
          have HW2 := Lib.hid hW2
          have hR12 : wo.heap.size < r4.heap.size := heap_lt p1
          clear k2 o2 hW2 p1
          go_wp2_with fail
          rw [HT.out, EC.out, ← HW2.out]
          refine (play_any 0 f S m _ (X.out.kept ((KW1.out.trans R4.out).trans KW2.out)) (by omega) hs n0 n1).mono ?_
          rintro e w6 ⟨rfl, p⟩
          generalize Dk.cut S = C at p hc EC ⊢
          obtain ⟨F, rfl⟩ : ∃ F : Nat, f = (F : Int) := ⟨f.toNat, by have := HF.out; omega⟩
          have hF4 : F < 4 := by have := HF.out; omega
          have hst := step_app K ws F C m hF4 (by have := HSZ.out F; rw [HN.out] at this; omega)
          have HG : Hid (∀ j, Dk.after K (Dk.more ws ⟨F, C, false⟩) (Dk.total (Dk.more ws ⟨F, C, false⟩)) j = if j = F then N j ++ C else N j) := fun j => by rw [now_add, HN.out]
          rw [hst] at p ⊢
          clear hst
          obtain ⟨v', y, hl, _, fr⟩ := p
          have b1 : ∀ i, wo.heap.size ≤ i → ¬ (i = b ∨ v.ownBlock = some i) := fun i hi h => by
            rcases h with rfl | h
            · omega
            · obtain ⟨_, cur, hg⟩ := X.out.row.blk h
              have := heap_lt hg
              omega
          have Q1 := Lib.hid (fr.at P2.out (b1 _ (Nat.le_refl _)))
          have Q2 := Lib.hid (fr.at O2.out (b1 _ (Nat.le_of_lt hR12)))
          have Y := Lib.hid y
          have KY := Lib.hid ((X.out.kept ((KW1.out.trans R4.out).trans KW2.out)).still HB.out (KR.out.trans ((KW1.out.trans R4.out).trans KW2.out)) fr)
          have hl' : (Dk.more ws ⟨F, C, false⟩).length ≤ k + 1 := by simpa using Nat.le_trans hl (by omega)
          clear y fr b1 X KR KW1 KW2 O1 O2 P2 R4 HW1 HW2 c0 c1 c2 c3 HR hl
          simp only at Y
          have d0 : w6.cell? ⟨wo.heap.size, 1, none⟩ = some (.int .i64 (F : Int)) := by have := Q1.out; simp [World.cell?, this]
          go_wp2
          go_loopw [9] (fun i wr => ∃ j : Nat, j ≤ 4 ∧ i = .int .i64 j ∧ Hid (Kept w6 wr)) (fun i _ => 4 - (intOf i).toNat)
          case atStart => exact ⟨0, Nat.zero_le _, rfl, Kept.refl _⟩
          case round =>
            obtain ⟨j, hj, rfl, RJ⟩ := hrel
            have q1 := (Below.block RJ.out _ (heap_lt Q1.out)).trans Q1.out
            have q2 := (Below.block RJ.out _ (heap_lt Q2.out)).trans Q2.out
            have f0 : wr.cell? ⟨wo.heap.size, 0, none⟩ = some (.int .i64 0) := by simp [World.cell?, q1]
            have f1 : wr.cell? ⟨wo.heap.size, 1, none⟩ = some (.int .i64 (F : Int)) := by simp [World.cell?, q1]
            clear q1
            by_cases hj4 : j < 4
            · have f2 := strcell q2 j hj4
              clear q2
              have gj := HG.out j
              have sj := HSZ.out j
              have s3 : ¬ (9223372036854775807 < (N j).size + C.size) := by omega
              by_cases hjf : j = F
              · subst hjf
                rw [if_pos rfl] at gj
                have ej : ((j : Int) == (j : Int)) = true := by simp
                generalize N j = T at f2 gj sj s3
                have GJ := Lib.hid gj
                clear gj
                go_wp2_with fail
                refine (read_is (j : Int) (T ++ C) _ (Y.out.kept RJ.out) (by rw [now_at _ _ _ hj4, GJ.out])).mono ?_
                rintro e r9 ⟨rfl, k9⟩
                have R9 := Lib.hid (RJ.out.trans k9)
                clear k9 RJ Y f0 f1 f2
                go_wp2
                go_roundw
                case rel => exact ⟨j + 1, by omega, by go_num, R9.out⟩
                case measure => simp [intOf]; omega
              · rw [if_neg hjf] at gj
                have ej : ((j : Int) == (F : Int)) = false := by rw [beq_eq_false_iff_ne]; omega
                generalize N j = T at f2 gj sj s3
                have GJ := Lib.hid gj
                clear gj
                go_wp2_with fail
                refine (read_is (j : Int) (T) _ (Y.out.kept RJ.out) (by rw [now_at _ _ _ hj4, GJ.out])).mono ?_
                rintro e r9 ⟨rfl, k9⟩
                have R9 := Lib.hid (RJ.out.trans k9)
                clear k9 RJ Y f0 f1 f2
                go_wp2
                go_roundw
                case rel => exact ⟨j + 1, by omega, by go_num, R9.out⟩
                case measure => simp [intOf]; omega
            · have hjj : j = 4 := by omega
              subst hjj
              clear q2
              have A2 : Hid (Apa w wr base b (k + 1)) := ⟨KY.out.trans RJ.out, K, v', (Dk.more ws ⟨F, C, false⟩), Y.out.kept RJ.out, hl', fun i => by
                have := HSZ.out i
                rw [HG.out]; split <;> (try rw [ByteArray.size_append]) <;> omega⟩
              clear KY RJ Y
              have l0 : (0 : Int) ≤ (F : Int) := by omega
              have l1 : (F : Int) < 4 := by omega
              go_wp2
              go_roundw
              case rel => exact ⟨k + 1, by omega, by omega, by go_num, A2⟩
              case measure => simp [intOf]; omega
        · obtain ⟨wo, rfl⟩ : ∃ wo, wo = wr := ⟨_, rfl⟩
          obtain ⟨W1, hW1⟩ : ∃ W1, W1 = wo.alloc (.cells #[.int .i64 0, .int .i64 f, .string S, .int .i64 m] 31) := ⟨_, rfl⟩
          have k1 : Kept wo W1 := by rw [hW1]; exact (Kept.refl wo).alloc _
          have o1 : W1.heap[wo.heap.size]? = some (.cells #[.int .i64 0, .int .i64 f, .string S, .int .i64 m] 31 (0, 0)) := by rw [hW1]; exact heap_alloc_new wo _
          have KW1 := Lib.hid k1
          have O1 := Lib.hid o1
          have HW1 := Lib.hid hW1
          clear k1 o1 hW1
          have HF := Lib.hid hf
          clear hf
          have R0 := Lib.hid (Kept.refl W1)
          go_wp2_with fail
          rw [← HW1.out]
          refine (read_is 0 (N 0) _ (X.out.kept (KW1.out.trans R0.out)) (by rw [HN.out]; rfl)).mono ?_
          rintro e r1 ⟨rfl, k0⟩
          have R1 := Lib.hid (R0.out.trans k0)
          clear k0 R0
          go_wp2_with fail
          refine (read_is 1 (N 1) _ (X.out.kept (KW1.out.trans R1.out)) (by rw [HN.out]; rfl)).mono ?_
          rintro e r2 ⟨rfl, k0⟩
          have R2 := Lib.hid (R1.out.trans k0)
          clear k0 R1
          go_wp2_with fail
          refine (read_is 2 (N 2) _ (X.out.kept (KW1.out.trans R2.out)) (by rw [HN.out]; rfl)).mono ?_
          rintro e r3 ⟨rfl, k0⟩
          have R3 := Lib.hid (R2.out.trans k0)
          clear k0 R2
          go_wp2_with fail
          refine (read_is 3 (N 3) _ (X.out.kept (KW1.out.trans R3.out)) (by rw [HN.out]; rfl)).mono ?_
          rintro e r4 ⟨rfl, k0⟩
          have R4 := Lib.hid (R3.out.trans k0)
          clear k0 R3
          obtain ⟨W2, hW2⟩ : ∃ W2, W2 = r4.alloc (.cells #[.string (N 0), .string (N 1), .string (N 2), .string (N 3)] 26) := ⟨_, rfl⟩
          have k2 : Kept r4 W2 := by rw [hW2]; exact (Kept.refl r4).alloc _
          have o2 : W2.heap[r4.heap.size]? = some (.cells #[.string (N 0), .string (N 1), .string (N 2), .string (N 3)] 26 (0, 0)) := by rw [hW2]; exact heap_alloc_new r4 _
          have p1 := (Below.block R4.out _ (heap_lt O1.out)).trans O1.out
          have g0 : r4.cell? ⟨wo.heap.size, 0, none⟩ = some (.int .i64 0) := by simp [World.cell?, p1]
          have g1 : r4.cell? ⟨wo.heap.size, 1, none⟩ = some (.int .i64 f) := by simp [World.cell?, p1]
          have g2 : r4.cell? ⟨wo.heap.size, 2, none⟩ = some (.string S) := by simp [World.cell?, p1]
          have g3 : r4.cell? ⟨wo.heap.size, 3, none⟩ = some (.int .i64 m) := by simp [World.cell?, p1]
          have KW2 := Lib.hid k2
          have O2 := Lib.hid o2
          have P2 := Lib.hid ((Below.block k2 _ (heap_lt p1)).trans p1)
          have HW2 := Lib.hid hW2
          have hR12 : wo.heap.size < r4.heap.size := heap_lt p1
          clear k2 o2 hW2 p1
          go_wp2_with fail
          rw [HT.out, EC.out, ← HW2.out]
          refine (play_any 0 f S m _ (X.out.kept ((KW1.out.trans R4.out).trans KW2.out)) (by omega) hs n0 n1).mono ?_
          rintro e w6 ⟨rfl, p⟩
          generalize Dk.cut S = C at p hc EC ⊢
          have hst := step_bad0 K ws f C m HF.out
          have HG : Hid (∀ j, Dk.after K ws (Dk.total ws) j = N j) := fun j => by rw [HN.out]
          rw [hst] at p ⊢
          clear hst
          obtain ⟨v', y, hl, _, fr⟩ := p
          have b1 : ∀ i, wo.heap.size ≤ i → ¬ (i = b ∨ v.ownBlock = some i) := fun i hi h => by
            rcases h with rfl | h
            · omega
            · obtain ⟨_, cur, hg⟩ := X.out.row.blk h
              have := heap_lt hg
              omega
          have Q1 := Lib.hid (fr.at P2.out (b1 _ (Nat.le_refl _)))
          have Q2 := Lib.hid (fr.at O2.out (b1 _ (Nat.le_of_lt hR12)))
          have Y := Lib.hid y
          have KY := Lib.hid ((X.out.kept ((KW1.out.trans R4.out).trans KW2.out)).still HB.out (KR.out.trans ((KW1.out.trans R4.out).trans KW2.out)) fr)
          have hl' : ws.length ≤ k + 1 := by simpa using Nat.le_trans hl (by omega)
          clear y fr b1 X KR KW1 KW2 O1 O2 P2 R4 HW1 HW2 c0 c1 c2 c3 HR hl
          simp only at Y
          have d0 : w6.cell? ⟨wo.heap.size, 1, none⟩ = some (.int .i64 f) := by have := Q1.out; simp [World.cell?, this]
          go_wp2
          go_loopw [9] (fun i wr => ∃ j : Nat, j ≤ 4 ∧ i = .int .i64 j ∧ Hid (Kept w6 wr)) (fun i _ => 4 - (intOf i).toNat)
          case atStart => exact ⟨0, Nat.zero_le _, rfl, Kept.refl _⟩
          case round =>
            obtain ⟨j, hj, rfl, RJ⟩ := hrel
            have q1 := (Below.block RJ.out _ (heap_lt Q1.out)).trans Q1.out
            have q2 := (Below.block RJ.out _ (heap_lt Q2.out)).trans Q2.out
            have f0 : wr.cell? ⟨wo.heap.size, 0, none⟩ = some (.int .i64 0) := by simp [World.cell?, q1]
            have f1 : wr.cell? ⟨wo.heap.size, 1, none⟩ = some (.int .i64 f) := by simp [World.cell?, q1]
            clear q1
            by_cases hj4 : j < 4
            · have f2 := strcell q2 j hj4
              clear q2
              have gj := HG.out j
              have sj := HSZ.out j
              have s3 : ¬ (9223372036854775807 < (N j).size + C.size) := by omega
              have ej : ((j : Int) == f) = false := by
                rw [beq_eq_false_iff_ne]
                have := HF.out
                omega
              generalize N j = T at f2 gj sj s3
              have GJ := Lib.hid gj
              clear gj
              go_wp2_with fail
              refine (read_is (j : Int) (T) _ (Y.out.kept RJ.out) (by rw [now_at _ _ _ hj4, GJ.out])).mono ?_
              rintro e r9 ⟨rfl, k9⟩
              have R9 := Lib.hid (RJ.out.trans k9)
              clear k9 RJ Y f0 f1 f2
              go_wp2
              go_roundw
              case rel => exact ⟨j + 1, by omega, by go_num, R9.out⟩
              case measure => simp [intOf]; omega
            · have hjj : j = 4 := by omega
              subst hjj
              clear q2
              have A2 : Hid (Apa w wr base b (k + 1)) := ⟨KY.out.trans RJ.out, K, v', ws, Y.out.kept RJ.out, hl', fun i => by
                have := HSZ.out i
                rw [HG.out]; omega⟩
              clear KY RJ Y
              by_cases l0 : 0 ≤ f
              · have l1 : ¬ (f < 4) := by have := HF.out; omega
                go_wp2
                go_roundw
                case rel => exact ⟨k + 1, by omega, by omega, by go_num, A2⟩
                case measure => simp [intOf]; omega
              · go_wp2
                go_roundw
                case rel => exact ⟨k + 1, by omega, by omega, by go_num, A2⟩
                case measure => simp [intOf]; omega
      · by_cases h1 : kd = 1
        · subst h1
          clear h0
          by_cases hf : 0 ≤ f ∧ f < 4
          · obtain ⟨wo, rfl⟩ : ∃ wo, wo = wr := ⟨_, rfl⟩
            obtain ⟨W1, hW1⟩ : ∃ W1, W1 = wo.alloc (.cells #[.int .i64 1, .int .i64 f, .string S, .int .i64 m] 31) := ⟨_, rfl⟩
            have k1 : Kept wo W1 := by rw [hW1]; exact (Kept.refl wo).alloc _
            have o1 : W1.heap[wo.heap.size]? = some (.cells #[.int .i64 1, .int .i64 f, .string S, .int .i64 m] 31 (0, 0)) := by rw [hW1]; exact heap_alloc_new wo _
            have KW1 := Lib.hid k1
            have O1 := Lib.hid o1
            have HW1 := Lib.hid hW1
            clear k1 o1 hW1
            have HF := Lib.hid hf
            clear hf
            have R0 := Lib.hid (Kept.refl W1)
            go_wp2_with fail
            rw [← HW1.out]
            refine (read_is 0 (N 0) _ (X.out.kept (KW1.out.trans R0.out)) (by rw [HN.out]; rfl)).mono ?_
            rintro e r1 ⟨rfl, k0⟩
            have R1 := Lib.hid (R0.out.trans k0)
            clear k0 R0
            go_wp2_with fail
            refine (read_is 1 (N 1) _ (X.out.kept (KW1.out.trans R1.out)) (by rw [HN.out]; rfl)).mono ?_
            rintro e r2 ⟨rfl, k0⟩
            have R2 := Lib.hid (R1.out.trans k0)
            clear k0 R1
            go_wp2_with fail
            refine (read_is 2 (N 2) _ (X.out.kept (KW1.out.trans R2.out)) (by rw [HN.out]; rfl)).mono ?_
            rintro e r3 ⟨rfl, k0⟩
            have R3 := Lib.hid (R2.out.trans k0)
            clear k0 R2
            go_wp2_with fail
            refine (read_is 3 (N 3) _ (X.out.kept (KW1.out.trans R3.out)) (by rw [HN.out]; rfl)).mono ?_
            rintro e r4 ⟨rfl, k0⟩
            have R4 := Lib.hid (R3.out.trans k0)
            clear k0 R3
            obtain ⟨W2, hW2⟩ : ∃ W2, W2 = r4.alloc (.cells #[.string (N 0), .string (N 1), .string (N 2), .string (N 3)] 26) := ⟨_, rfl⟩
            have k2 : Kept r4 W2 := by rw [hW2]; exact (Kept.refl r4).alloc _
            have o2 : W2.heap[r4.heap.size]? = some (.cells #[.string (N 0), .string (N 1), .string (N 2), .string (N 3)] 26 (0, 0)) := by rw [hW2]; exact heap_alloc_new r4 _
            have p1 := (Below.block R4.out _ (heap_lt O1.out)).trans O1.out
            have g0 : r4.cell? ⟨wo.heap.size, 0, none⟩ = some (.int .i64 1) := by simp [World.cell?, p1]
            have g1 : r4.cell? ⟨wo.heap.size, 1, none⟩ = some (.int .i64 f) := by simp [World.cell?, p1]
            have g2 : r4.cell? ⟨wo.heap.size, 2, none⟩ = some (.string S) := by simp [World.cell?, p1]
            have g3 : r4.cell? ⟨wo.heap.size, 3, none⟩ = some (.int .i64 m) := by simp [World.cell?, p1]
            have KW2 := Lib.hid k2
            have O2 := Lib.hid o2
            have P2 := Lib.hid ((Below.block k2 _ (heap_lt p1)).trans p1)
            have HW2 := Lib.hid hW2
            have hR12 : wo.heap.size < r4.heap.size := heap_lt p1
            clear k2 o2 hW2 p1
            go_wp2_with fail
            rw [HT.out, EC.out, ← HW2.out]
            refine (play_any 1 f S m _ (X.out.kept ((KW1.out.trans R4.out).trans KW2.out)) (by omega) hs n0 n1).mono ?_
            rintro e w6 ⟨rfl, p⟩
            generalize Dk.cut S = C at p hc EC ⊢
            obtain ⟨F, rfl⟩ : ∃ F : Nat, f = (F : Int) := ⟨f.toNat, by have := HF.out; omega⟩
            have hF4 : F < 4 := by have := HF.out; omega
            have hst := step_rep K ws F C m hF4 (by omega)
            have HG : Hid (∀ j, Dk.after K (Dk.more ws ⟨F, C, true⟩) (Dk.total (Dk.more ws ⟨F, C, true⟩)) j = if j = F then C else N j) := fun j => by rw [now_swap, HN.out]
            rw [hst] at p ⊢
            clear hst
            obtain ⟨v', y, hl, _, fr⟩ := p
            have b1 : ∀ i, wo.heap.size ≤ i → ¬ (i = b ∨ v.ownBlock = some i) := fun i hi h => by
              rcases h with rfl | h
              · omega
              · obtain ⟨_, cur, hg⟩ := X.out.row.blk h
                have := heap_lt hg
                omega
            have Q1 := Lib.hid (fr.at P2.out (b1 _ (Nat.le_refl _)))
            have Q2 := Lib.hid (fr.at O2.out (b1 _ (Nat.le_of_lt hR12)))
            have Y := Lib.hid y
            have KY := Lib.hid ((X.out.kept ((KW1.out.trans R4.out).trans KW2.out)).still HB.out (KR.out.trans ((KW1.out.trans R4.out).trans KW2.out)) fr)
            have hl' : (Dk.more ws ⟨F, C, true⟩).length ≤ k + 1 := by simpa using Nat.le_trans hl (by omega)
            clear y fr b1 X KR KW1 KW2 O1 O2 P2 R4 HW1 HW2 c0 c1 c2 c3 HR hl
            simp only at Y
            have d0 : w6.cell? ⟨wo.heap.size, 1, none⟩ = some (.int .i64 (F : Int)) := by have := Q1.out; simp [World.cell?, this]
            go_wp2
            go_loopw [9] (fun i wr => ∃ j : Nat, j ≤ 4 ∧ i = .int .i64 j ∧ Hid (Kept w6 wr)) (fun i _ => 4 - (intOf i).toNat)
            case atStart => exact ⟨0, Nat.zero_le _, rfl, Kept.refl _⟩
            case round =>
              obtain ⟨j, hj, rfl, RJ⟩ := hrel
              have q1 := (Below.block RJ.out _ (heap_lt Q1.out)).trans Q1.out
              have q2 := (Below.block RJ.out _ (heap_lt Q2.out)).trans Q2.out
              have f0 : wr.cell? ⟨wo.heap.size, 0, none⟩ = some (.int .i64 1) := by simp [World.cell?, q1]
              have f1 : wr.cell? ⟨wo.heap.size, 1, none⟩ = some (.int .i64 (F : Int)) := by simp [World.cell?, q1]
              clear q1
              by_cases hj4 : j < 4
              · have f2 := strcell q2 j hj4
                clear q2
                have gj := HG.out j
                have sj := HSZ.out j
                have s3 : ¬ (9223372036854775807 < (N j).size + C.size) := by omega
                by_cases hjf : j = F
                · subst hjf
                  rw [if_pos rfl] at gj
                  have ej : ((j : Int) == (j : Int)) = true := by simp
                  generalize N j = T at f2 gj sj s3
                  have GJ := Lib.hid gj
                  clear gj
                  go_wp2_with fail
                  refine (read_is (j : Int) (C) _ (Y.out.kept RJ.out) (by rw [now_at _ _ _ hj4, GJ.out])).mono ?_
                  rintro e r9 ⟨rfl, k9⟩
                  have R9 := Lib.hid (RJ.out.trans k9)
                  clear k9 RJ Y f0 f1 f2
                  go_wp2
                  go_roundw
                  case rel => exact ⟨j + 1, by omega, by go_num, R9.out⟩
                  case measure => simp [intOf]; omega
                · rw [if_neg hjf] at gj
                  have ej : ((j : Int) == (F : Int)) = false := by rw [beq_eq_false_iff_ne]; omega
                  generalize N j = T at f2 gj sj s3
                  have GJ := Lib.hid gj
                  clear gj
                  go_wp2_with fail
                  refine (read_is (j : Int) (T) _ (Y.out.kept RJ.out) (by rw [now_at _ _ _ hj4, GJ.out])).mono ?_
                  rintro e r9 ⟨rfl, k9⟩
                  have R9 := Lib.hid (RJ.out.trans k9)
                  clear k9 RJ Y f0 f1 f2
                  go_wp2
                  go_roundw
                  case rel => exact ⟨j + 1, by omega, by go_num, R9.out⟩
                  case measure => simp [intOf]; omega
              · have hjj : j = 4 := by omega
                subst hjj
                clear q2
                have A2 : Hid (Apa w wr base b (k + 1)) := ⟨KY.out.trans RJ.out, K, v', (Dk.more ws ⟨F, C, true⟩), Y.out.kept RJ.out, hl', fun i => by
                  have := HSZ.out i
                  rw [HG.out]; split <;> omega⟩
                clear KY RJ Y
                have l0 : (0 : Int) ≤ (F : Int) := by omega
                have l1 : (F : Int) < 4 := by omega
                go_wp2
                go_roundw
                case rel => exact ⟨k + 1, by omega, by omega, by go_num, A2⟩
                case measure => simp [intOf]; omega
          · obtain ⟨wo, rfl⟩ : ∃ wo, wo = wr := ⟨_, rfl⟩
            obtain ⟨W1, hW1⟩ : ∃ W1, W1 = wo.alloc (.cells #[.int .i64 1, .int .i64 f, .string S, .int .i64 m] 31) := ⟨_, rfl⟩
            have k1 : Kept wo W1 := by rw [hW1]; exact (Kept.refl wo).alloc _
            have o1 : W1.heap[wo.heap.size]? = some (.cells #[.int .i64 1, .int .i64 f, .string S, .int .i64 m] 31 (0, 0)) := by rw [hW1]; exact heap_alloc_new wo _
            have KW1 := Lib.hid k1
            have O1 := Lib.hid o1
            have HW1 := Lib.hid hW1
            clear k1 o1 hW1
            have HF := Lib.hid hf
            clear hf
            have R0 := Lib.hid (Kept.refl W1)
            go_wp2_with fail
            rw [← HW1.out]
            refine (read_is 0 (N 0) _ (X.out.kept (KW1.out.trans R0.out)) (by rw [HN.out]; rfl)).mono ?_
            rintro e r1 ⟨rfl, k0⟩
            have R1 := Lib.hid (R0.out.trans k0)
            clear k0 R0
            go_wp2_with fail
            refine (read_is 1 (N 1) _ (X.out.kept (KW1.out.trans R1.out)) (by rw [HN.out]; rfl)).mono ?_
            rintro e r2 ⟨rfl, k0⟩
            have R2 := Lib.hid (R1.out.trans k0)
            clear k0 R1
            go_wp2_with fail
            refine (read_is 2 (N 2) _ (X.out.kept (KW1.out.trans R2.out)) (by rw [HN.out]; rfl)).mono ?_
            rintro e r3 ⟨rfl, k0⟩
            have R3 := Lib.hid (R2.out.trans k0)
            clear k0 R2
            go_wp2_with fail
            refine (read_is 3 (N 3) _ (X.out.kept (KW1.out.trans R3.out)) (by rw [HN.out]; rfl)).mono ?_
            rintro e r4 ⟨rfl, k0⟩
            have R4 := Lib.hid (R3.out.trans k0)
            clear k0 R3
            obtain ⟨W2, hW2⟩ : ∃ W2, W2 = r4.alloc (.cells #[.string (N 0), .string (N 1), .string (N 2), .string (N 3)] 26) := ⟨_, rfl⟩
            have k2 : Kept r4 W2 := by rw [hW2]; exact (Kept.refl r4).alloc _
            have o2 : W2.heap[r4.heap.size]? = some (.cells #[.string (N 0), .string (N 1), .string (N 2), .string (N 3)] 26 (0, 0)) := by rw [hW2]; exact heap_alloc_new r4 _
            have p1 := (Below.block R4.out _ (heap_lt O1.out)).trans O1.out
            have g0 : r4.cell? ⟨wo.heap.size, 0, none⟩ = some (.int .i64 1) := by simp [World.cell?, p1]
            have g1 : r4.cell? ⟨wo.heap.size, 1, none⟩ = some (.int .i64 f) := by simp [World.cell?, p1]
            have g2 : r4.cell? ⟨wo.heap.size, 2, none⟩ = some (.string S) := by simp [World.cell?, p1]
            have g3 : r4.cell? ⟨wo.heap.size, 3, none⟩ = some (.int .i64 m) := by simp [World.cell?, p1]
            have KW2 := Lib.hid k2
            have O2 := Lib.hid o2
            have P2 := Lib.hid ((Below.block k2 _ (heap_lt p1)).trans p1)
            have HW2 := Lib.hid hW2
            have hR12 : wo.heap.size < r4.heap.size := heap_lt p1
            clear k2 o2 hW2 p1
            go_wp2_with fail
            rw [HT.out, EC.out, ← HW2.out]
            refine (play_any 1 f S m _ (X.out.kept ((KW1.out.trans R4.out).trans KW2.out)) (by omega) hs n0 n1).mono ?_
            rintro e w6 ⟨rfl, p⟩
            generalize Dk.cut S = C at p hc EC ⊢
            have hst := step_bad1 K ws f C m HF.out
            have HG : Hid (∀ j, Dk.after K ws (Dk.total ws) j = N j) := fun j => by rw [HN.out]
            rw [hst] at p ⊢
            clear hst
            obtain ⟨v', y, hl, _, fr⟩ := p
            have b1 : ∀ i, wo.heap.size ≤ i → ¬ (i = b ∨ v.ownBlock = some i) := fun i hi h => by
              rcases h with rfl | h
              · omega
              · obtain ⟨_, cur, hg⟩ := X.out.row.blk h
                have := heap_lt hg
                omega
            have Q1 := Lib.hid (fr.at P2.out (b1 _ (Nat.le_refl _)))
            have Q2 := Lib.hid (fr.at O2.out (b1 _ (Nat.le_of_lt hR12)))
            have Y := Lib.hid y
            have KY := Lib.hid ((X.out.kept ((KW1.out.trans R4.out).trans KW2.out)).still HB.out (KR.out.trans ((KW1.out.trans R4.out).trans KW2.out)) fr)
            have hl' : ws.length ≤ k + 1 := by simpa using Nat.le_trans hl (by omega)
            clear y fr b1 X KR KW1 KW2 O1 O2 P2 R4 HW1 HW2 c0 c1 c2 c3 HR hl
            simp only at Y
            have d0 : w6.cell? ⟨wo.heap.size, 1, none⟩ = some (.int .i64 f) := by have := Q1.out; simp [World.cell?, this]
            go_wp2
            go_loopw [9] (fun i wr => ∃ j : Nat, j ≤ 4 ∧ i = .int .i64 j ∧ Hid (Kept w6 wr)) (fun i _ => 4 - (intOf i).toNat)
            case atStart => exact ⟨0, Nat.zero_le _, rfl, Kept.refl _⟩
            case round =>
              obtain ⟨j, hj, rfl, RJ⟩ := hrel
              have q1 := (Below.block RJ.out _ (heap_lt Q1.out)).trans Q1.out
              have q2 := (Below.block RJ.out _ (heap_lt Q2.out)).trans Q2.out
              have f0 : wr.cell? ⟨wo.heap.size, 0, none⟩ = some (.int .i64 1) := by simp [World.cell?, q1]
              have f1 : wr.cell? ⟨wo.heap.size, 1, none⟩ = some (.int .i64 f) := by simp [World.cell?, q1]
              clear q1
              by_cases hj4 : j < 4
              · have f2 := strcell q2 j hj4
                clear q2
                have gj := HG.out j
                have sj := HSZ.out j
                have s3 : ¬ (9223372036854775807 < (N j).size + C.size) := by omega
                have ej : ((j : Int) == f) = false := by
                  rw [beq_eq_false_iff_ne]
                  have := HF.out
                  omega
                generalize N j = T at f2 gj sj s3
                have GJ := Lib.hid gj
                clear gj
                go_wp2_with fail
                refine (read_is (j : Int) (T) _ (Y.out.kept RJ.out) (by rw [now_at _ _ _ hj4, GJ.out])).mono ?_
                rintro e r9 ⟨rfl, k9⟩
                have R9 := Lib.hid (RJ.out.trans k9)
                clear k9 RJ Y f0 f1 f2
                go_wp2
                go_roundw
                case rel => exact ⟨j + 1, by omega, by go_num, R9.out⟩
                case measure => simp [intOf]; omega
              · have hjj : j = 4 := by omega
                subst hjj
                clear q2
                have A2 : Hid (Apa w wr base b (k + 1)) := ⟨KY.out.trans RJ.out, K, v', ws, Y.out.kept RJ.out, hl', fun i => by
                  have := HSZ.out i
                  rw [HG.out]; omega⟩
                clear KY RJ Y
                by_cases l0 : 0 ≤ f
                · have l1 : ¬ (f < 4) := by have := HF.out; omega
                  go_wp2
                  go_roundw
                  case rel => exact ⟨k + 1, by omega, by omega, by go_num, A2⟩
                  case measure => simp [intOf]; omega
                · go_wp2
                  go_roundw
                  case rel => exact ⟨k + 1, by omega, by omega, by go_num, A2⟩
                  case measure => simp [intOf]; omega
        · have e0 : (kd == 0) = false := by rw [beq_eq_false_iff_ne]; exact h0
          have e1 : (kd == 1) = false := by rw [beq_eq_false_iff_ne]; exact h1
          have e2 : (kd != 0) = true := by simp [bne, e0]
          have e3 : (kd != 1) = true := by simp [bne, e1]
          have A2 : Hid (Apa w (wr.alloc (.cells #[.int .i64 kd, .int .i64 f, .string S, .int .i64 m] 31)) base b (k + 1)) :=
            ⟨KR.out.alloc _, K, v, ws, X.out.kept ((Kept.refl _).alloc _), by omega, fun i => by have := HSZ.out i; rw [HN.out] at this; omega⟩
          clear h0 h1
          go_wp2
          go_roundw
          case rel => exact ⟨k + 1, by omega, by omega, by go_num, A2⟩
          case measure => simp [intOf]; omega
    · obtain ⟨kr, _⟩ := HR.out
      have KR := Lib.hid kr
      clear kr HR A1 HZ
      have h6 : len ≤ k ∨ 60 ≤ k := by omega
      go_wp2_with fail
      all_goals
        refine (fix_any _).mono ?_
        rintro e w5 ⟨rfl, k5⟩
        have K5 := Lib.hid (KR.out.trans k5)
        clear k5 h6 hlt
        go_wp2
        go_ret
        exact ⟨rfl, K5.out⟩
end Go.Proofs.Ytedenkgjdmcafaa
