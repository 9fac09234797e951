/-
  The law's same: a call of a script at the document's disk; both disks answer alike.
-/
import Derived.Test.YtedenkgjdmcafaaDref3
namespace Go.Proofs.Ytedenkgjdmcafaa
open Go.ChangeShapes Go.WideShapes Go.ChangeAt Go.RowKit

namespace Dk
/-- one write more -/
def plus (ws : List W) (x : W) : List W := ws ++ [x]
/-- both steps go alike -/
theorem step_clean (K : Fl) (ws : List W) (kd f : Int) (s : ByteArray) (n : Int) :
    step more K (clean ws) kd f s n = ((step plus K ws kd f s n).1, clean (step plus K ws kd f s n).2.1, (step plus K ws kd f s n).2.2) := by
  unfold step
  simp only [total_clean, after_clean, more_clean]
  by_cases h0 : kd = 0
  · simp only [if_pos h0]
    split <;> rfl
  · simp only [if_neg h0]
    by_cases h1 : kd = 1
    · simp only [if_pos h1]
      split <;> rfl
    · simp only [if_neg h1]
      by_cases h2 : kd = 2
      · simp only [if_pos h2]; rfl
      · simp only [if_neg h2]
        by_cases h3 : kd = 3
        · simp only [if_pos h3]; rfl
        · simp only [if_neg h3]
end Dk

/-- behind a call of a script, the document's disk -/
def RPlayed (w w' : World) (base b : Nat) (v : Value) (r : Dk.Fl × List Dk.W × Int) (n : Nat) : Prop :=
  ∃ v', RD w' base b r.1 v' r.2.1 ∧ r.2.1.length ≤ n ∧ RWent w v v' ∧ But (fun i => i = b ∨ v.ownBlock = some i) w w'
theorem RWrote.played {w w1 w' : World} {base b : Nat} {K : Dk.Fl} {v : Value} {ws : List Dk.W} {x : Dk.W} {a : Int} (k : Kept w w1) (h : RWrote w1 w' base b K v (ws ++ [x])) : RPlayed w w' base b v (K, Dk.plus ws x, a) (ws.length + 1) := by
  obtain ⟨v', h1, h2, h3⟩ := h
  exact ⟨v', h1, by simp [Dk.plus], h2.back k.size, k.but.trans h3 fun _ _ h => h⟩
theorem rplayed_same {w w' : World} {base b : Nat} {K : Dk.Fl} {v : Value} {ws : List Dk.W} {a : Int} (h : RD w base b K v ws) (k : Kept w w') : RPlayed w w' base b v (K, ws, a) (ws.length + 1) :=
  ⟨v, h.kept k, Nat.le_succ _, .inl rfl, k.but⟩

set_option maxHeartbeats 1000000 in
set_option maxRecDepth 100000 in
theorem rsame_any {b : Nat} {base : Nat} {K : Dk.Fl} {v : Value} {ws : List Dk.W} (kd f : Int) (s : ByteArray) (n : Int) (w : World) (h : RD w base b K v ws) (hl : ws.length < 1000000) (hq : ∀ i, (Dk.after K ws (Dk.total ws) i).size ≤ 65000) (hs : s.size ≤ 9223372036854775807) (n0 : -9223372036854775808 ≤ n) (n1 : n ≤ 9223372036854775807) :
    Calls Try.prog 15 #[.pointer (some ⟨b, 0, none⟩), .agg #[.int .i64 kd, .int .i64 f, .string s, .int .i64 n]] w fun e w' =>
      e = .returned (.int .i64 (Dk.step Dk.plus K ws kd f (Dk.cut s) n).2.2) ∧ RPlayed w w' base b v (Dk.step Dk.plus K ws kd f (Dk.cut s) n) (ws.length + 1) := by
  have H := Lib.hid h
  clear h
  have mb1 : 0 ≤ min (s.size : Int) 60 := by omega
  have mb2 : min (s.size : Int) 60 ≤ (s.size : Int) := by omega
  have ht : (min (s.size : Int) 60).toNat = min s.size 60 := by omega
  have HT := Lib.hid ht
  have hc := Dk.cut_size s
  clear ht
  have EC : Hid (s.extract 0 (min s.size 60) = Dk.cut s) := Lib.hid rfl
  generalize Dk.cut s = S at hc EC ⊢
  generalize hr : Dk.step Dk.plus K ws kd f S n = r
  have HR := Lib.hid hr
  clear hr
  have k0 : Kept w (w.alloc (.cells #[.int .i64 kd, .int .i64 f, .string s, .int .i64 n] 31)) := (Kept.refl w).alloc _
  have H0 := Lib.hid (H.out.kept k0)
  have K0 := Lib.hid k0
  clear k0
  have j0 : ¬ (1 : Int) = 0 := by decide
  have j1 : ¬ (2 : Int) = 0 := by decide
  have j2 : ¬ (2 : Int) = 1 := by decide
  have j3 : ¬ (3 : Int) = 0 := by decide
  have j4 : ¬ (3 : Int) = 1 := by decide
  have j5 : ¬ (3 : Int) = 2 := by decide
  by_cases h0 : kd = 0
  · subst h0
    have CA : Hid (Calls Try.prog 30 #[.pointer (some ⟨b, 0, none⟩), .int .i64 f, .string S] (w.alloc (.cells #[.int .i64 0, .int .i64 f, .string s, .int .i64 n] 31)) fun e w' =>
        e = .returned (.int .i64 r.2.2) ∧ RPlayed w w' base b v r (ws.length + 1)) := by
      show Calls _ _ _ _ _
      rw [← HR.out]
      unfold Dk.step
      rw [if_pos rfl]
      unfold Dk.ansA
      by_cases hf : 0 ≤ f ∧ f < 4
      · obtain ⟨k, rfl⟩ : ∃ k : Nat, f = (k : Int) := ⟨f.toNat, by omega⟩
        have hk : k < 4 := by omega
        simp only [if_pos hf, Int.toNat_natCast]
        by_cases hz : (Dk.after K ws (Dk.total ws) k).size + S.size ≤ 65536
        · simp only [if_pos hz]
          exact (rapp_ok k S _ H0.out hk hz hl).mono fun e w' ⟨h1, h2⟩ => ⟨h1, h2.played K0.out⟩
        · simp only [if_neg hz]
          exact absurd (hq k) (by omega)
      · simp only [if_neg hf]
        exact (rapp_bad b f S _ hf).mono fun e w' ⟨h1, h2⟩ => ⟨h1, rplayed_same H.out (K0.out.trans h2)⟩
    clear HR
    go_enter Try.func15, Try.ntmps15
    go_wp2_with fail
    rw [HT.out, EC.out]
    refine CA.out.mono ?_
    rintro e w1 ⟨rfl, p1⟩
    go_wp2
    go_ret
    exact ⟨rfl, p1⟩
  have hn0 : (kd == 0) = false := by rw [beq_eq_false_iff_ne]; exact h0
  by_cases h1 : kd = 1
  · subst h1
    have CA : Hid (Calls Try.prog 31 #[.pointer (some ⟨b, 0, none⟩), .int .i64 f, .string S] (w.alloc (.cells #[.int .i64 1, .int .i64 f, .string s, .int .i64 n] 31)) fun e w' =>
        e = .returned (.int .i64 r.2.2) ∧ RPlayed w w' base b v r (ws.length + 1)) := by
      show Calls _ _ _ _ _
      rw [← HR.out]
      unfold Dk.step
      rw [if_neg j0, if_pos rfl]
      unfold Dk.ansR
      by_cases hf : 0 ≤ f ∧ f < 4
      · obtain ⟨k, rfl⟩ : ∃ k : Nat, f = (k : Int) := ⟨f.toNat, by omega⟩
        have hk : k < 4 := by omega
        simp only [if_pos hf, Int.toNat_natCast, if_pos (show S.size ≤ 65536 by omega)]
        exact (rrep_ok k S _ H0.out hk (by omega) hl).mono fun e w' ⟨h1, h2⟩ => ⟨h1, h2.played K0.out⟩
      · simp only [if_neg hf]
        exact (rrep_bad b f S _ hf).mono fun e w' ⟨h1, h2⟩ => ⟨h1, rplayed_same H.out (K0.out.trans h2)⟩
    clear HR
    go_enter Try.func15, Try.ntmps15
    go_wp2_with fail
    rw [HT.out, EC.out]
    refine CA.out.mono ?_
    rintro e w1 ⟨rfl, p1⟩
    go_wp2
    go_ret
    exact ⟨rfl, p1⟩
  have hn1 : (kd == 1) = false := by rw [beq_eq_false_iff_ne]; exact h1
  by_cases h2 : kd = 2
  · subst h2
    have CA : Hid (Calls Try.prog 32 #[.pointer (some ⟨b, 0, none⟩)] (w.alloc (.cells #[.int .i64 2, .int .i64 f, .string s, .int .i64 n] 31)) fun e w' =>
        e = .returned (.tuple #[]) ∧ r.2.2 = 0 ∧ RPlayed w w' base b v r (ws.length + 1)) := by
      show Calls _ _ _ _ _
      rw [← HR.out]
      unfold Dk.step
      rw [if_neg j1, if_neg j2, if_pos rfl]
      exact (rsync_any _ H0.out).mono fun e w' ⟨h1, h2, h3⟩ => ⟨h1, rfl, _, h2, Nat.zero_le _, .inr (fun i e => by cases e), K0.out.but.trans (h3.mono (S' := fun i => i = b ∨ v.ownBlock = some i) fun _ _ h => .inl h) fun _ _ h => h⟩
    clear HR
    go_enter Try.func15, Try.ntmps15
    go_wp2_with fail
    refine CA.out.mono ?_
    rintro e w1 ⟨rfl, r0, p1⟩
    go_wp2
    go_ret
    exact ⟨by rw [r0]; rfl, p1⟩
  have hn2 : (kd == 2) = false := by rw [beq_eq_false_iff_ne]; exact h2
  by_cases h3 : kd = 3
  · subst h3
    have CA : Hid (Calls Try.prog 33 #[.pointer (some ⟨b, 0, none⟩), .int .i64 n] (w.alloc (.cells #[.int .i64 3, .int .i64 f, .string s, .int .i64 n] 31)) fun e w' =>
        e = .returned (.int .i64 r.2.2) ∧ RPlayed w w' base b v r (ws.length + 1)) := by
      show Calls _ _ _ _ _
      rw [← HR.out]
      unfold Dk.step
      rw [if_neg j3, if_neg j4, if_neg j5, if_pos rfl]
      exact (rcrash_any n _ n0 n1 H0.out).mono fun e w' ⟨h1, h2, h3⟩ => ⟨h1, _, h2, Nat.zero_le _, .inr (fun i e => by cases e), K0.out.but.trans (h3.mono (S' := fun i => i = b ∨ v.ownBlock = some i) fun _ _ h => .inl h) fun _ _ h => h⟩
    clear HR
    go_enter Try.func15, Try.ntmps15
    go_wp2_with fail
    refine CA.out.mono ?_
    rintro e w1 ⟨rfl, p1⟩
    go_wp2
    go_ret
    exact ⟨rfl, p1⟩
  · have hn3 : (kd == 3) = false := by rw [beq_eq_false_iff_ne]; exact h3
    have hr : r = (K, ws, 0) := by rw [← HR.out]; unfold Dk.step; simp only [if_neg h0, if_neg h1, if_neg h2, if_neg h3]
    subst hr
    clear h0 h1 h2 h3 HR
    go_enter Try.func15, Try.ntmps15
    go_wp2
    go_ret
    exact ⟨rfl, rplayed_same H.out K0.out⟩
end Go.Proofs.Ytedenkgjdmcafaa
