/-
  The walks of a disk's calls: a copy, and the two writes.
-/
import Derived.Test.YtenhncohhikllaaDoorDcore2
namespace Go.Proofs.YtenhncohhikllaaDoor
open Go.ChangeShapes Go.WideShapes Go.ChangeAt Go.RowKit

/-- a copy was made -/
def Copied (w w' : World) (K : Dk.Fl) (ws : List Dk.W) (e : Ending) : Prop := ∃ b' v', e = .returned (.pointer (some ⟨b', 0, none⟩)) ∧ Dsk w' w.heap.size b' K v' ws ∧ Kept w w'
set_option maxHeartbeats 1000000 in
theorem copy_disk {b : Nat} {base : Nat} {K : Dk.Fl} {v : Value} {ws : List Dk.W} (w : World) (h : Dsk w base b K v ws) :
    Calls Tryd.prog 54 #[.pointer (some ⟨b, 0, none⟩)] w fun e w' => Copied w w' K ws e := by
  have H := Lib.hid h
  clear h
  generalize hN : Dk.after K ws (Dk.total ws) = N
  have HN := Lib.hid hN
  clear hN
  have KS : ∀ w', Kept w w' → (w'.cell? ⟨b, 0, none⟩ = some (.string (K 0)) ∧ w'.cell? ⟨b, 1, none⟩ = some (.string (K 1)) ∧ w'.cell? ⟨b, 2, none⟩ = some (.string (K 2)) ∧ w'.cell? ⟨b, 3, none⟩ = some (.string (K 3))) ∧
      (w'.cell? ⟨b, 4, none⟩ = some (.string (N 0)) ∧ w'.cell? ⟨b, 5, none⟩ = some (.string (N 1)) ∧ w'.cell? ⟨b, 6, none⟩ = some (.string (N 2)) ∧ w'.cell? ⟨b, 7, none⟩ = some (.string (N 3))) ∧ w'.cell? ⟨b, 8, none⟩ = some v := fun w' k => by
    have := (dcell (H.out.kept k).blk)
    rw [HN.out] at this
    obtain ⟨a0, a1, a2, a3, a4, a5, a6, a7, a8, _⟩ := this
    exact ⟨⟨a0, a1, a2, a3⟩, ⟨a4, a5, a6, a7⟩, a8⟩
  have KSH := Lib.hid KS
  clear KS
  go_enter Tryd.func54, Tryd.ntmps54
  go_wp2
  go_region_held3 (fun w' => (w'.cell? ⟨b, 0, none⟩ = some (.string (K 0)) ∧ w'.cell? ⟨b, 1, none⟩ = some (.string (K 1)) ∧ w'.cell? ⟨b, 2, none⟩ = some (.string (K 2)) ∧ w'.cell? ⟨b, 3, none⟩ = some (.string (K 3))) ∧
      (w'.cell? ⟨b, 4, none⟩ = some (.string (N 0)) ∧ w'.cell? ⟨b, 5, none⟩ = some (.string (N 1)) ∧ w'.cell? ⟨b, 6, none⟩ = some (.string (N 2)) ∧ w'.cell? ⟨b, 7, none⟩ = some (.string (N 3))) ∧ w'.cell? ⟨b, 8, none⟩ = some v)
    (first | exact KSH.out _ ((Kept.refl _).drew) | exact KSH.out _ k2 | exact KSH.out _ (k2.alloc _))
    (first
      | (go_at_call 69; refine (clone_row w.drew (H.out.kept ((Kept.refl w).drew)).row H.out.few).mono ?_; rintro e w2 ⟨v', rfl, o2, k⟩; have k2 := ((Kept.refl w).drew).trans k; obtain ⟨a2, c2, rfl⟩ := o2.form))
  go_wp2
  go_ret
  have hN : #[.string (K 0), .string (K 1), .string (K 2), .string (K 3), .string (N 0), .string (N 1), .string (N 2), .string (N 3), .slice a2 ws.length c2] = dcells K (Dk.after K ws (Dk.total ws)) (.slice a2 ws.length c2) := by rw [HN.out]; rfl
  refine ⟨w2.heap.size, .slice a2 ws.length c2, rfl, ⟨by rw [← hN]; exact heap_alloc_new w2 _, k2.size, (o2.mono (by simp)).kept ((Kept.refl w2).alloc _), H.out.few, H.out.ok, H.out.fits⟩, k2.alloc _⟩

theorem fits_add {base b : Nat} {K : Dk.Fl} {v : Value} {ws : List Dk.W} {w : World} (h : Dsk w base b K v ws) (x : Dk.W) (hs : x.s.size ≤ 65536) (hw : x.whole = true ∨ (Dk.after K ws (Dk.total ws) x.file).size + x.s.size ≤ 65536) : Dk.Fits K (ws ++ [x]) := h.fits.snoc x hs hw

theorem app_bad (b : Nat) (f : Int) (s : ByteArray) (w : World) (h : ¬ (0 ≤ f ∧ f < 4)) :
    Calls Tryd.prog 20 #[.pointer (some ⟨b, 0, none⟩), .int .i64 f, .string s] w fun e w' => e = .returned (.int .i64 1) ∧ Kept w w' := by
  have H := Lib.hid h
  clear h
  go_enter Tryd.func20, Tryd.ntmps20
  go_wp2_with (go_at_call 49; refine (isFile_no _ _ H.out).mono ?_; rintro e w1 ⟨rfl, rfl⟩)
  go_ret
  exact ⟨rfl, Kept.refl _⟩
theorem rep_bad (b : Nat) (f : Int) (s : ByteArray) (w : World) (h : ¬ (0 ≤ f ∧ f < 4)) :
    Calls Tryd.prog 25 #[.pointer (some ⟨b, 0, none⟩), .int .i64 f, .string s] w fun e w' => e = .returned (.int .i64 1) ∧ Kept w w' := by
  have H := Lib.hid h
  clear h
  go_enter Tryd.func25, Tryd.ntmps25
  go_wp2_with (go_at_call 49; refine (isFile_no _ _ H.out).mono ?_; rintro e w1 ⟨rfl, rfl⟩)
  go_ret
  exact ⟨rfl, Kept.refl _⟩
theorem rep_big (b : Nat) (f : Nat) (s : ByteArray) (w : World) (h : f < 4) (hs : 65536 < s.size) (hm : s.size ≤ maxLen) :
    Calls Tryd.prog 25 #[.pointer (some ⟨b, 0, none⟩), .int .i64 f, .string s] w fun e w' => e = .returned (.int .i64 2) ∧ Kept w w' := by
  unfold maxLen at hm
  go_enter Tryd.func25, Tryd.ntmps25
  go_wp2_with (go_at_call 49; refine (isFile_yes _ _ (by omega)).mono ?_; rintro e w1 ⟨rfl, rfl⟩)
  go_ret
  exact ⟨rfl, Kept.refl _⟩
set_option maxHeartbeats 400000 in
theorem rep_ok {b : Nat} {base : Nat} {K : Dk.Fl} {v : Value} {ws : List Dk.W} (f : Nat) (s : ByteArray) (w : World) (hd : Dsk w base b K v ws) (h : f < 4) (hs : s.size ≤ 65536) (hl : ws.length < 1000000) :
    Calls Tryd.prog 25 #[.pointer (some ⟨b, 0, none⟩), .int .i64 f, .string s] w fun e w' => e = .returned (.int .i64 0) ∧ Did w w' base b K v ws ⟨f, s, true⟩ := by
  have H := Lib.hid hd
  clear hd
  go_enter Tryd.func25, Tryd.ntmps25
  go_wp2_with (first
    | (go_at_call 49; refine (isFile_yes _ _ (by omega)).mono ?_; rintro e w1 ⟨rfl, rfl⟩)
    | (go_at_call 46; refine (clone_any _ _ (by omega)).mono ?_; rintro e w2 ⟨rfl, k2⟩)
    | (go_at_call 50; refine (do_any ⟨f, s, true⟩ _ (H.out.kept k2) h hs hl (fits_add H.out _ hs (.inl rfl))).mono ?_; rintro e w3 ⟨rfl, d3⟩))
  go_ret
  obtain ⟨v', g1, g2, g3⟩ := d3
  exact ⟨rfl, v', g1, g2.back k2.size, k2.but.trans g3 fun _ _ h => h⟩

/-- what the file has now -/
theorem app_now {b : Nat} {base : Nat} {K : Dk.Fl} {v : Value} {ws : List Dk.W} {w : World} (hd : Dsk w base b K v ws) (f : Nat) (h : f < 4) : w.cell? ⟨b, 4 + f, none⟩ = some (.string (Dk.after K ws (Dk.total ws) f)) := by
  obtain ⟨_, _, _, _, c4, c5, c6, c7, _, _⟩ := dcell hd.blk
  rcases (by omega : f = 0 ∨ f = 1 ∨ f = 2 ∨ f = 3) with rfl | rfl | rfl | rfl <;> assumption
set_option maxHeartbeats 400000 in
theorem app_big {b : Nat} {base : Nat} {K : Dk.Fl} {v : Value} {ws : List Dk.W} (f : Nat) (s : ByteArray) (w : World) (hd : Dsk w base b K v ws) (h : f < 4) (hm : s.size ≤ 281474976710656) (hs : 65536 < (Dk.after K ws (Dk.total ws) f).size + s.size) :
    Calls Tryd.prog 20 #[.pointer (some ⟨b, 0, none⟩), .int .i64 f, .string s] w fun e w' => e = .returned (.int .i64 2) ∧ Kept w w' := by
  have c := app_now hd f h
  have hz := hd.fits (Dk.total ws) f
  generalize Dk.after K ws (Dk.total ws) f = t at c hz hs
  clear hd
  have hlt : 65536 < (t.size : Int) + (s.size : Int) := by omega
  go_enter Tryd.func20, Tryd.ntmps20
  go_wp2_with (go_at_call 49; refine (isFile_yes _ _ (by omega)).mono ?_; rintro e w1 ⟨rfl, rfl⟩)
  go_ret
  exact ⟨rfl, Kept.refl _⟩
set_option maxHeartbeats 400000 in
theorem app_ok {b : Nat} {base : Nat} {K : Dk.Fl} {v : Value} {ws : List Dk.W} (f : Nat) (s : ByteArray) (w : World) (hd : Dsk w base b K v ws) (h : f < 4) (hs : (Dk.after K ws (Dk.total ws) f).size + s.size ≤ 65536) (hl : ws.length < 1000000) :
    Calls Tryd.prog 20 #[.pointer (some ⟨b, 0, none⟩), .int .i64 f, .string s] w fun e w' => e = .returned (.int .i64 0) ∧ Did w w' base b K v ws ⟨f, s, false⟩ := by
  have c := app_now hd f h
  have H := Lib.hid hd
  have HF := Lib.hid (fits_add hd ⟨f, s, false⟩ (by simp only; omega) (.inr hs))
  clear hd
  generalize Dk.after K ws (Dk.total ws) f = t at c hs
  have ht : t.size ≤ 65536 := by omega
  have hs1 : s.size ≤ 65536 := by omega
  have hlt : ¬ (65536 < (t.size : Int) + (s.size : Int)) := by omega
  go_enter Tryd.func20, Tryd.ntmps20
  go_wp2_with (first
    | (go_at_call 49; refine (isFile_yes _ _ (by omega)).mono ?_; rintro e w1 ⟨rfl, rfl⟩)
    | (go_at_call 46; refine (clone_any _ _ (by omega)).mono ?_; rintro e w2 ⟨rfl, k2⟩)
    | (go_at_call 50; refine (do_any ⟨f, s, false⟩ _ (H.out.kept k2) h (by simp only; omega) hl HF.out).mono ?_; rintro e w3 ⟨rfl, d3⟩))
  go_ret
  obtain ⟨v', g1, g2, g3⟩ := d3
  exact ⟨rfl, v', g1, g2.back k2.size, k2.but.trans g3 fun _ _ h => h⟩
end Go.Proofs.YtenhncohhikllaaDoor
