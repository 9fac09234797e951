/-
  What a call of a script does to a disk; the walk of the law's play.
-/
import Derived.Test.YtedenkgjdmcafaaDcore3
namespace Go.Proofs.Ytedenkgjdmcafaa
open Go.ChangeShapes Go.WideShapes Go.ChangeAt Go.RowKit

namespace Dk
/-- the first 60 bytes -/
def cut (s : ByteArray) : ByteArray := s.extract 0 (min s.size 60)
theorem cut_size (s : ByteArray) : (cut s).size ≤ 60 := by unfold cut; rw [ByteArray.size_extract]; omega
/-- one write more, if it has units -/
def more (ws : List W) (x : W) : List W := if units x = 0 then ws else ws ++ [x]
/-- what an Append, a Replace is answered -/
def ansA (N : Fl) (f : Int) (s : ByteArray) : Int := if 0 ≤ f ∧ f < 4 then (if (N f.toNat).size + s.size ≤ 65536 then 0 else 2) else 1
def ansR (f : Int) (s : ByteArray) : Int := if 0 ≤ f ∧ f < 4 then (if s.size ≤ 65536 then 0 else 2) else 1
/-- a call: what is kept behind it, the writes, the answer; add: how a write is added -/
def step (add : List W → W → List W) (K : Fl) (ws : List W) (kd f : Int) (s : ByteArray) (n : Int) : Fl × List W × Int :=
  if kd = 0 then (K, (if ansA (after K ws (total ws)) f s = 0 then add ws ⟨f.toNat, s, false⟩ else ws), ansA (after K ws (total ws)) f s)
  else if kd = 1 then (K, (if ansR f s = 0 then add ws ⟨f.toNat, s, true⟩ else ws), ansR f s)
  else if kd = 2 then (after K ws (total ws), [], 0)
  else if kd = 3 then (after K ws n.toNat, [], (min n.toNat (total ws) : Nat))
  else (K, ws, 0)
theorem more_len (ws : List W) (x : W) : (more ws x).length ≤ ws.length + 1 := by unfold more; split <;> simp
theorem more_clean (ws : List W) (x : W) : more (clean ws) x = clean (ws ++ [x]) := by rw [clean_snoc]; rfl
end Dk

/-- behind a call of a script -/
def Played (w w' : World) (base b : Nat) (v : Value) (r : Dk.Fl × List Dk.W × Int) (n : Nat) : Prop :=
  ∃ v', Dsk w' base b r.1 v' r.2.1 ∧ r.2.1.length ≤ n ∧ RWent w v v' ∧ But (fun i => i = b ∨ v.ownBlock = some i) w w'
theorem Did.played {w w1 w' : World} {base b : Nat} {K : Dk.Fl} {v : Value} {ws : List Dk.W} {x : Dk.W} {a : Int} (k : Kept w w1) (h : Did w1 w' base b K v ws x) : Played w w' base b v (K, Dk.more ws x, a) (ws.length + 1) := by
  obtain ⟨v', h1, h2, h3⟩ := h
  exact ⟨v', h1, Dk.more_len _ _, h2.back k.size, (k.but.trans h3 fun _ _ h => h)⟩
theorem played_same {w w' : World} {base b : Nat} {K : Dk.Fl} {v : Value} {ws : List Dk.W} {a : Int} (h : Dsk w base b K v ws) (k : Kept w w') : Played w w' base b v (K, ws, a) (ws.length + 1) :=
  ⟨v, h.kept k, Nat.le_succ _, .inl rfl, k.but⟩

set_option maxHeartbeats 1000000 in
set_option maxRecDepth 100000 in
theorem play_any {b : Nat} {base : Nat} {K : Dk.Fl} {v : Value} {ws : List Dk.W} (kd f : Int) (s : ByteArray) (n : Int) (w : World) (h : Dsk w base b K v ws) (hl : ws.length < 1000000) (hs : s.size ≤ 9223372036854775807) (n0 : -9223372036854775808 ≤ n) (n1 : n ≤ 9223372036854775807) :
    Calls Try.prog 14 #[.pointer (some ⟨b, 0, none⟩), .agg #[.int .i64 kd, .int .i64 f, .string s, .int .i64 n]] w fun e w' =>
      e = .returned (.int .i64 (Dk.step Dk.more K ws kd f (Dk.cut s) n).2.2) ∧ Played w w' base b v (Dk.step Dk.more K ws kd f (Dk.cut s) n) (ws.length + 1) := by
  have H := Lib.hid h
  clear h
  have mb1 : 0 ≤ min (s.size : Int) 60 := by omega
  have mb2 : min (s.size : Int) 60 ≤ (s.size : Int) := by omega
  have ht : (min (s.size : Int) 60).toNat = min s.size 60 := by omega
  have HT := Lib.hid ht
  have hc := Dk.cut_size s
  clear ht
  have EC : Hid (s.extract 0 (min s.size 60) = Dk.cut s) := Lib.hid rfl
  generalize Dk.cut s = S at hc EC ⊢
  generalize hr : Dk.step Dk.more K ws kd f S n = r
  have HR := Lib.hid hr
  clear hr
  have k0 : Kept w (w.alloc (.cells #[.int .i64 kd, .int .i64 f, .string s, .int .i64 n] 31)) := (Kept.refl w).alloc _
  have H0 := Lib.hid (H.out.kept k0)
  have K0 := Lib.hid k0
  clear k0
  have j0 : ¬ (1 : Int) = 0 := by decide
  have j1 : ¬ (2 : Int) = 0 := by decide
  have j2 : ¬ (2 : Int) = 1 := by decide
  have j3 : ¬ (3 : Int) = 0 := by decide
  have j4 : ¬ (3 : Int) = 1 := by decide
  have j5 : ¬ (3 : Int) = 2 := by decide
  by_cases h0 : kd = 0
  · subst h0
    have CA : Hid (Calls Try.prog 12 #[.pointer (some ⟨b, 0, none⟩), .int .i64 f, .string S] (w.alloc (.cells #[.int .i64 0, .int .i64 f, .string s, .int .i64 n] 31)) fun e w' =>
        e = .returned (.int .i64 r.2.2) ∧ Played w w' base b v r (ws.length + 1)) := by
      show Calls _ _ _ _ _
      rw [← HR.out]
      unfold Dk.step
      rw [if_pos rfl]
      unfold Dk.ansA
      by_cases hf : 0 ≤ f ∧ f < 4
      · obtain ⟨k, rfl⟩ : ∃ k : Nat, f = (k : Int) := ⟨f.toNat, by omega⟩
        have hk : k < 4 := by omega
        simp only [if_pos hf, Int.toNat_natCast]
        by_cases hz : (Dk.after K ws (Dk.total ws) k).size + S.size ≤ 65536
        · simp only [if_pos hz]
          exact (app_ok k S _ H0.out hk hz hl).mono fun e w' ⟨h1, h2⟩ => ⟨h1, h2.played K0.out⟩
        · simp only [if_neg hz]
          exact (app_big k S _ H0.out hk (by omega) (by omega)).mono fun e w' ⟨h1, h2⟩ => ⟨h1, played_same H.out (K0.out.trans h2)⟩
      · simp only [if_neg hf]
        exact (app_bad b f S _ hf).mono fun e w' ⟨h1, h2⟩ => ⟨h1, played_same H.out (K0.out.trans h2)⟩
    clear HR
    go_enter Try.func14, Try.ntmps14
    go_wp2_with fail
    rw [HT.out, EC.out]
    refine CA.out.mono ?_
    rintro e w1 ⟨rfl, p1⟩
    go_wp2
    go_ret
    exact ⟨rfl, p1⟩
  have hn0 : (kd == 0) = false := by rw [beq_eq_false_iff_ne]; exact h0
  by_cases h1 : kd = 1
  · subst h1
    have CA : Hid (Calls Try.prog 24 #[.pointer (some ⟨b, 0, none⟩), .int .i64 f, .string S] (w.alloc (.cells #[.int .i64 1, .int .i64 f, .string s, .int .i64 n] 31)) fun e w' =>
        e = .returned (.int .i64 r.2.2) ∧ Played w w' base b v r (ws.length + 1)) := by
      show Calls _ _ _ _ _
      rw [← HR.out]
      unfold Dk.step
      rw [if_neg j0, if_pos rfl]
      unfold Dk.ansR
      by_cases hf : 0 ≤ f ∧ f < 4
      · obtain ⟨k, rfl⟩ : ∃ k : Nat, f = (k : Int) := ⟨f.toNat, by omega⟩
        have hk : k < 4 := by omega
        simp only [if_pos hf, Int.toNat_natCast, if_pos (show S.size ≤ 65536 by omega)]
        exact (rep_ok k S _ H0.out hk (by omega) hl).mono fun e w' ⟨h1, h2⟩ => ⟨h1, h2.played K0.out⟩
      · simp only [if_neg hf]
        exact (rep_bad b f S _ hf).mono fun e w' ⟨h1, h2⟩ => ⟨h1, played_same H.out (K0.out.trans h2)⟩
    clear HR
    go_enter Try.func14, Try.ntmps14
    go_wp2_with fail
    rw [HT.out, EC.out]
    refine CA.out.mono ?_
    rintro e w1 ⟨rfl, p1⟩
    go_wp2
    go_ret
    exact ⟨rfl, p1⟩
  have hn1 : (kd == 1) = false := by rw [beq_eq_false_iff_ne]; exact h1
  by_cases h2 : kd = 2
  · subst h2
    have CA : Hid (Calls Try.prog 13 #[.pointer (some ⟨b, 0, none⟩)] (w.alloc (.cells #[.int .i64 2, .int .i64 f, .string s, .int .i64 n] 31)) fun e w' =>
        e = .returned (.tuple #[]) ∧ r.2.2 = 0 ∧ Played w w' base b v r (ws.length + 1)) := by
      show Calls _ _ _ _ _
      rw [← HR.out]
      unfold Dk.step
      rw [if_neg j1, if_neg j2, if_pos rfl]
      exact (sync_disk _ H0.out).mono fun e w' ⟨h1, h2, h3⟩ => ⟨h1, rfl, _, h2, Nat.zero_le _, .inr (fun i e => by cases e), K0.out.but.trans (h3.mono (S' := fun i => i = b ∨ v.ownBlock = some i) fun _ _ h => .inl h) fun _ _ h => h⟩
    clear HR
    go_enter Try.func14, Try.ntmps14
    go_wp2_with fail
    refine CA.out.mono ?_
    rintro e w1 ⟨rfl, r0, p1⟩
    go_wp2
    go_ret
    exact ⟨by rw [r0]; rfl, p1⟩
  have hn2 : (kd == 2) = false := by rw [beq_eq_false_iff_ne]; exact h2
  by_cases h3 : kd = 3
  · subst h3
    have CA : Hid (Calls Try.prog 23 #[.pointer (some ⟨b, 0, none⟩), .int .i64 n] (w.alloc (.cells #[.int .i64 3, .int .i64 f, .string s, .int .i64 n] 31)) fun e w' =>
        e = .returned (.int .i64 r.2.2) ∧ Played w w' base b v r (ws.length + 1)) := by
      show Calls _ _ _ _ _
      rw [← HR.out]
      unfold Dk.step
      rw [if_neg j3, if_neg j4, if_neg j5, if_pos rfl]
      exact (crash_disk n _ n0 n1 H0.out).mono fun e w' ⟨h1, h2, h3⟩ => ⟨h1, _, h2, Nat.zero_le _, .inr (fun i e => by cases e), K0.out.but.trans (h3.mono (S' := fun i => i = b ∨ v.ownBlock = some i) fun _ _ h => .inl h) fun _ _ h => h⟩
    clear HR
    go_enter Try.func14, Try.ntmps14
    go_wp2_with fail
    refine CA.out.mono ?_
    rintro e w1 ⟨rfl, p1⟩
    go_wp2
    go_ret
    exact ⟨rfl, p1⟩
  · have hn3 : (kd == 3) = false := by rw [beq_eq_false_iff_ne]; exact h3
    have hr : r = (K, ws, 0) := by rw [← HR.out]; unfold Dk.step; simp only [if_neg h0, if_neg h1, if_neg h2, if_neg h3]
    subst hr
    clear h0 h1 h2 h3 HR
    go_enter Try.func14, Try.ntmps14
    go_wp2
    go_ret
    exact ⟨rfl, played_same H.out K0.out⟩
end Go.Proofs.Ytedenkgjdmcafaa
