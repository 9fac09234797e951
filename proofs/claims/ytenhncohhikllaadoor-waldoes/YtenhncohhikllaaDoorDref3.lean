/-
  The walks of the document's disk: Crash, Sync, Copy; the law's same.
-/
import Derived.Test.YtenhncohhikllaaDoorDref2
namespace Go.Proofs.YtenhncohhikllaaDoor
open Go.ChangeShapes Go.WideShapes Go.ChangeAt Go.RowKit

theorem strone {w : World} {b : Nat} {t : TypeId} {F : Dk.Fl} (h : w.heap[b]? = some (.cells #[.string (F 0), .string (F 1), .string (F 2), .string (F 3)] t (0, 0))) (j : Nat) (hj : j < 4) : w.cell? ⟨b, j, none⟩ = some (.string (F j)) := by
  rcases (by omega : j = 0 ∨ j = 1 ∨ j = 2 ∨ j = 3) with rfl | rfl | rfl | rfl <;> simp [World.cell?, h]
theorem strfour {w : World} {b : Nat} {t : TypeId} {F : Dk.Fl} (h : w.heap[b]? = some (.cells #[.string (F 0), .string (F 1), .string (F 2), .string (F 3)] t (0, 0))) :
    w.cell? ⟨b, 0, none⟩ = some (.string (F 0)) ∧ w.cell? ⟨b, 1, none⟩ = some (.string (F 1)) ∧ w.cell? ⟨b, 2, none⟩ = some (.string (F 2)) ∧ w.cell? ⟨b, 3, none⟩ = some (.string (F 3)) := by
  simp [World.cell?, h]

/-- the first k files told -/
def upto (F : Dk.Fl) (k : Nat) : Dk.Fl := fun j => if j < k then F j else ⟨#[]⟩
theorem upto_set (F : Dk.Fl) (k : Nat) (hk : k < 4) : (#[.string (upto F k 0), .string (upto F k 1), .string (upto F k 2), .string (upto F k 3)] : Array Value).setIfInBounds k (.string (F k)) = #[.string (upto F (k + 1) 0), .string (upto F (k + 1) 1), .string (upto F (k + 1) 2), .string (upto F (k + 1) 3)] := by
  rcases (by omega : k = 0 ∨ k = 1 ∨ k = 2 ∨ k = 3) with rfl | rfl | rfl | rfl <;> simp [upto]

set_option maxHeartbeats 2000000 in
set_option maxRecDepth 100000 in
theorem rcrash_any {r base : Nat} {B : Dk.Fl} {v : Value} {W : List Dk.W} (u : Int) (w : World) (_u0 : -9223372036854775808 ≤ u) (_u1 : u ≤ 9223372036854775807) (h : RD w base r B v W) :
    Calls Tryd.prog 23 #[.pointer (some ⟨r, 0, none⟩), .int .i64 u] w fun e w' => e = .returned (.int .i64 (min u.toNat (Dk.total W) : Nat)) ∧ RD w' base r (Dk.after B W u.toNat) (.slice none 0 0) [] ∧ But (fun i => i = r) w w' := by
  have H := Lib.hid h
  have hsm := h.small
  have hr : r < w.heap.size := heap_lt h.blk
  clear h
  obtain ⟨N, hN⟩ : ∃ N, N = min u.toNat (Dk.total W) := ⟨_, rfl⟩
  have hmx : max 0 (min u (Dk.total W : Int)) = (N : Int) := by omega
  have hNt : N ≤ Dk.total W := by omega
  have HAF : Hid (Dk.after B W u.toNat = Dk.after B W N) := by
    show _ = _
    rw [hN]
    by_cases hle : u.toNat ≤ Dk.total W
    · rw [Nat.min_eq_left hle]
    · rw [Nat.min_eq_right (by omega), Dk.after_more B W _ (by omega)]
  have HN := Lib.hid hN
  clear hN
  rw [HAF.out, ← HN.out]
  go_enter Tryd.func23, Tryd.ntmps23
  go_wp2_with fail
  refine (runits_any _ H.out).mono ?_
  rintro e w1 ⟨rfl, rfl⟩
  go_wp2
  obtain ⟨W1, hW1⟩ : ∃ W1, W1 = w.alloc (.cells #[.string ⟨#[]⟩, .string ⟨#[]⟩, .string ⟨#[]⟩, .string ⟨#[]⟩] 27) := ⟨_, rfl⟩
  have k01 : Kept w W1 := by rw [hW1]; exact (Kept.refl w).alloc _
  have e1 : W1.heap[w.heap.size]? = some (.cells #[.string (upto (Dk.after B W N) 0 0), .string (upto (Dk.after B W N) 0 1), .string (upto (Dk.after B W N) 0 2), .string (upto (Dk.after B W N) 0 3)] 27 (0, 0)) := by rw [hW1]; exact heap_alloc_new w _
  rw [← hW1]
  have K01 := Lib.hid k01
  have E1 := Lib.hid e1
  clear k01 e1 hW1
  go_loopw [7] (fun i wr => ∃ k : Nat, k ≤ 4 ∧ i = .int .i64 k ∧ Hid (wr.heap[w.heap.size]? = some (.cells #[.string (upto (Dk.after B W N) k 0), .string (upto (Dk.after B W N) k 1), .string (upto (Dk.after B W N) k 2), .string (upto (Dk.after B W N) k 3)] 27 (0, 0)) ∧ But (fun i => i = w.heap.size) W1 wr)) (fun i _ => 4 - (intOf i).toNat)
  case atStart => exact ⟨0, Nat.zero_le _, rfl, E1.out, But.refl _ _⟩
  case round =>
    obtain ⟨k, hk, rfl, HR⟩ := hrel
    have KWR : Hid (Kept w wr) := But.after K01.out HR.out.2 fun i hi e => by omega
    by_cases hlt : k < 4
    · go_wp2_with fail
      refine (rafter_any k N _ (H.out.kept KWR.out) hlt hNt).mono ?_
      rintro e w2 ⟨rfl, k2⟩
      have hB2 := (Below.block k2 _ (heap_lt HR.out.1)).trans HR.out.1
      have st := sets_one ⟨hB2, HR.out.2.trans k2.but fun _ _ h => (h : False).elim⟩ k (.string (Dk.after B W N k))
      rw [upto_set _ k hlt] at st
      have ST := Lib.hid st
      have f0 : w2.frozen? ⟨w.heap.size, k, none⟩ = false := by simp [World.frozen?, hB2]
      have d0 := strone (F := upto (Dk.after B W N) k) hB2 k hlt
      clear st k2 hB2 HR KWR
      generalize Dk.after B W N k = X at ST ⊢
      go_wp2
      go_roundw
      case rel => exact ⟨k + 1, by omega, by go_num, ST.out⟩
      case measure => simp [intOf]; omega
    · have hkk : k = 4 := by omega
      subst hkk
      obtain ⟨h1, h2⟩ := HR.out
      generalize hA : Dk.after B W N = A at h1 ⊢
      have HA := Lib.hid hA
      have h1' : wr.heap[w.heap.size]? = some (.cells #[.string (A 0), .string (A 1), .string (A 2), .string (A 3)] 27 (0, 0)) := h1
      obtain ⟨d0, d1, d2, d3⟩ := strfour h1'
      have hb' := (Below.block KWR.out _ hr).trans H.out.blk
      obtain ⟨c0, c1, c2, c3, c4, fz⟩ := rcell hb'
      have HB' := Lib.hid hb'
      clear h1 h1' h2 HR hA hb'
      go_wp2
      go_ret
      have s0 := sets_one ⟨HB'.out, But.refl _ wr⟩ 0 (.string (A 0))
      have s1 := sets_one s0 1 (.string (A 1))
      have s2 := sets_one s1 2 (.string (A 2))
      have s3 := sets_one s2 3 (.string (A 3))
      have s4 := sets_one s3 4 (.slice none 0 0)
      have ed : (((((rcells B v).setIfInBounds 0 (.string (A 0))).setIfInBounds 1 (.string (A 1))).setIfInBounds 2 (.string (A 2))).setIfInBounds 3 (.string (A 3))).setIfInBounds 4 (.slice none 0 0) = rcells A (.slice none 0 0) := by
        simp [rcells]
      rw [ed] at s4
      obtain ⟨t1, t2⟩ := s4
      have hfit : Dk.Fits A [] := by rw [← HA.out]; exact H.out.fits.settle N
      refine ⟨rfl, ?_, KWR.out.but.trans t2 fun _ _ h => h⟩
      rw [HA.out]
      exact ⟨t1, H.out.low, OffV.nil _ _ _ _, Nat.zero_le _, by simp, hfit⟩

theorem rsync_any {r base : Nat} {B : Dk.Fl} {v : Value} {W : List Dk.W} (w : World) (h : RD w base r B v W) :
    Calls Tryd.prog 48 #[.pointer (some ⟨r, 0, none⟩)] w fun e w' => e = .returned (.tuple #[]) ∧ RD w' base r (Dk.after B W (Dk.total W)) (.slice none 0 0) [] ∧ But (fun i => i = r) w w' := by
  have H := Lib.hid h
  have hsm := h.small
  clear h
  have CC := Lib.hid (rcrash_any (Dk.total W : Int) w (by omega) (by omega) H.out)
  rw [Int.toNat_natCast] at CC
  go_enter Tryd.func48, Tryd.ntmps48
  go_wp2_with fail
  refine (runits_any _ H.out).mono ?_
  rintro e w1 ⟨rfl, rfl⟩
  go_wp2_with fail
  refine CC.out.mono ?_
  rintro e w2 ⟨rfl, x, f⟩
  go_wp2
  go_end0
  exact ⟨rfl, x, f⟩

end Go.Proofs.YtenhncohhikllaaDoor
