/-
  The walk of Check.
-/
import Derived.Test.YtenhncohhikllaaDoorWapp
namespace Go.Proofs.YtenhncohhikllaaDoor
open Go.ChangeShapes Go.WideShapes Go.ChangeAt Go.RowKit

/-- a state put in the place of all -/
def Wg.St.chk (x : Wg.St) (s : List UInt8) : Wg.St := ⟨x.r + 1, s, []⟩
theorem more_whole (ws : List Dk.W) (f : Nat) (s : ByteArray) : Dk.more ws ⟨f, s, true⟩ = ws ++ [⟨f, s, true⟩] := by
  unfold Dk.more
  rw [if_neg (by unfold Dk.units; simp)]

set_option maxHeartbeats 400000 in
theorem logcheck_big (b : Nat) (s : ByteArray) (w : World) (hs : 16384 < s.size) (hm : s.size ≤ maxLen) :
    Calls Tryd.prog 16 #[.pointer (some ⟨b, 0, none⟩), .string s] w fun e w' => e = .returned (.int .i64 2) ∧ Kept w w' := by
  unfold maxLen at hm
  go_enter Tryd.func16, Tryd.ntmps16
  go_wp2
  go_ret
  exact ⟨rfl, Kept.refl w⟩

set_option maxHeartbeats 2000000 in
set_option maxRecDepth 100000 in
theorem logcheck_any {W : World} {base b d : Nat} {K : Dk.Fl} {v : Value} {ws : List Dk.W} {x : Wg.St} {lv : Value} {sure : Nat} (s : ByteArray) (w : World) (h : LD w base b d K v ws x lv sure) (hs : s.size ≤ 16384) (hl : ws.length + 2 ≤ 1000000) (hr : x.r < 1099511628776) (hT : Tab W) (hW : W.heap.size ≤ base) (kW : Kept W w) :
    Calls Tryd.prog 16 #[.pointer (some ⟨b, 0, none⟩), .string s] w fun e w' => e = .returned (.int .i64 0) ∧
      Went2 w w' base b d v lv K (ws ++ [⟨0, Wg.rowb (x.chk s.data.toList) s.data.toList, true⟩, ⟨1, ⟨#[]⟩, true⟩]) (x.chk s.data.toList) 0 := by
  obtain ⟨_, c1, _, _, _, fz⟩ := lcell h.log.blk
  have H := Lib.hid h
  have r1 : IntKind.u64.wrap ((x.r : Int) + 1) = (x.r : Int) + 1 := by
    have := IntKind.wrap_u64 ((x.r : Int) + 1)
    rw [this]; omega
  have hq := Wg.rowb_size (x.chk s.data.toList) s.data.toList
  rw [size_len] at hq
  have HTW : Hid (∀ w', But (fun i => i = b) w w' → Tab w') := Lib.hid fun w' f => hT.kept (But.after kW f fun i hi e => by have := h.log.low; omega)
  have HTD : Hid (∀ w' w'', Kept W w' → Kept w' w'' → Tab w'') := Lib.hid fun w' w'' k k' => hT.kept (k.trans k')
  clear h
  go_enter Tryd.func16, Tryd.ntmps16
  go_wp2_with fail
  obtain ⟨h1, f1⟩ := sets_one (w0 := w) ⟨H.out.log.blk, But.refl _ _⟩ 1 (.int .u64 (x.r + 1 : Int))
  have e1 : (lcells d x lv sure).setIfInBounds 1 (.int .u64 (x.r + 1 : Int)) = lcells d ⟨x.r + 1, x.st, x.l⟩ lv sure := rfl
  rw [e1] at h1
  generalize w.setCell ⟨b, 1, none⟩ (.int .u64 (x.r + 1 : Int)) = w1 at h1 f1 ⊢
  refine (clone_any s _ (by omega)).mono ?_
  rintro e w2 ⟨rfl, k2⟩
  have h2 := (Below.block k2 b (heap_lt h1)).trans h1
  have f2 : But (fun i => i = b) w w2 := f1.trans k2.but fun _ _ h => h
  obtain ⟨g0, g1, g2, g3, g4, gz⟩ := lcell h2
  have H2 := Lib.hid h2
  have F2 := Lib.hid f2
  clear h1 f1 k2 h2 f2 c1 fz
  go_wp2_with fail
  have s5 := sets_one (sets_one (sets_one (w0 := w) ⟨H2.out, F2.out⟩ 2 (.string s)) 3 (.slice none 0 0)) 4 (.int .i64 0)
  have e5 : (((lcells d ⟨x.r + 1, x.st, x.l⟩ lv sure).setIfInBounds 2 (.string s)).setIfInBounds 3 (.slice none 0 0)).setIfInBounds 4 (.int .i64 0) = lcells d (x.chk s.data.toList) (.slice none 0 0) 0 := rfl
  rw [e5] at s5
  generalize ((w2.setCell ⟨b, 2, none⟩ (.string s)).setCell ⟨b, 3, none⟩ (.slice none 0 0)).setCell ⟨b, 4, none⟩ (.int .i64 0) = w5 at s5 ⊢
  obtain ⟨h5, f5⟩ := s5
  have l5 : LD w5 base b d K v ws (x.chk s.data.toList) (.slice none 0 0) 0 :=
    ⟨H.out.dsk.beside H.out.log H.out.ap (f5.mono fun _ _ e => .inl e), ⟨h5, H.out.log.low, Tx.nil _ _, ⟨by show x.r + 1 ≤ _; omega, by show s.data.toList.length ≤ _; rw [size_len]; omega, Nat.zero_le _, (fun y hy => by cases hy), Nat.zero_le _⟩⟩, rapart_nil2 _⟩
  have kW5 : Kept W w5 := But.after kW f5 fun i hi e => by have := H.out.log.low; omega
  have L5 := Lib.hid l5
  have F5 := Lib.hid f5
  have KW5 := Lib.hid kW5
  have hx1 : (x.chk s.data.toList).r = x.r + 1 := rfl
  clear h5 f5 l5 kW5 g0 g1 g2 g3 g4 gz H2 F2 w2 w1
  obtain ⟨c0, c1, _, _, _, _⟩ := lcell L5.out.log.blk
  have CS : Hid (∀ w', Kept w5 w' → Calls Tryd.prog 45 #[.int .u64 (x.chk s.data.toList).r, .string s] w' fun e w'' => e = .returned (.string (Wg.rowb (x.chk s.data.toList) s.data.toList)) ∧ Kept w' w'') := Lib.hid fun w' k =>
    (wseal_any (x.chk s.data.toList).r s w' (by omega) (by omega) (hT.kept (KW5.out.trans k))).mono fun e w'' ⟨h1, h2⟩ => ⟨h1, h2⟩
  have CA : Hid (∀ w', Kept w5 w' → Calls Tryd.prog 25 #[.pointer (some ⟨d, 0, none⟩), .int .i64 0, .string (Wg.rowb (x.chk s.data.toList) s.data.toList)] w' fun e w'' => e = .returned (.int .i64 0) ∧ Wrote w' w'' base d K v (ws ++ [⟨0, Wg.rowb (x.chk s.data.toList) s.data.toList, true⟩])) := Lib.hid fun w' k =>
    replace_is 0 _ 0 _ w' (L5.out.dsk.kept k) (by omega) (by unfold maxLen; omega) (by unfold Dk.ansR; rw [if_pos (by omega), if_pos (by omega)]) (by rw [if_pos rfl, more_whole]; rfl)
  have KS : Hid (∀ w', Kept w5 w' → w'.cell? ⟨b, 0, none⟩ = some (.pointer (some ⟨d, 0, none⟩)) ∧ w'.cell? ⟨b, 1, none⟩ = some (.int .u64 (x.chk s.data.toList).r)) := Lib.hid fun w' k => by
    obtain ⟨c0, c1, _⟩ := lcell (L5.out.log.kept k).blk
    exact ⟨c0, c1⟩
  have KSA : Hid (∀ w' w'', Kept w5 w' → But (fun i => i = d ∨ v.ownBlock = some i) w' w'' → Lg w'' base b d (x.chk s.data.toList) (.slice none 0 0) 0) := Lib.hid fun w' w'' k f =>
    (L5.out.log.kept k).past (L5.out.dsk.kept k) L5.out.ap f
  have KSB : Hid (∀ w'', Lg w'' base b d (x.chk s.data.toList) (.slice none 0 0) 0 → w''.cell? ⟨b, 0, none⟩ = some (.pointer (some ⟨d, 0, none⟩)) ∧ w''.cell? ⟨b, 1, none⟩ = some (.int .u64 (x.chk s.data.toList).r)) := Lib.hid fun w'' g => by
    obtain ⟨c0, c1, _⟩ := lcell g.blk
    exact ⟨c0, c1⟩
  generalize hrow : Wg.rowb (x.chk s.data.toList) s.data.toList = q at CS CA ⊢
  go_region_held3 (fun w' => w'.cell? ⟨b, 0, none⟩ = some (.pointer (some ⟨d, 0, none⟩)) ∧ w'.cell? ⟨b, 1, none⟩ = some (.int .u64 (x.chk s.data.toList).r))
    (first | exact KS.out _ (Kept.refl _).drew | exact KS.out _ ((Kept.refl _).drew.trans k2) | exact KSB.out _ g3)
    (first
      | (go_at_call 45; refine (CS.out _ (Kept.refl _).drew).mono ?_; rintro e w2 ⟨rfl, k2⟩)
      | (go_at_call 25; refine (CA.out _ ((Kept.refl _).drew.trans k2)).mono ?_; rintro e w3 ⟨rfl, v3, d3, t3, f3⟩; have g3 := KSA.out _ _ ((Kept.refl _).drew.trans k2) f3))
  have D3 := Lib.hid d3
  have G3 := Lib.hid g3
  have B3 : Hid (But (LS b d v lv) w w3) := Lib.hid (((F5.out.mono fun _ _ e => .inl e).trans ((Kept.refl _).drew.trans k2).but fun _ _ h => h).trans f3 fun i _ e => e.elim (fun e => .inr (.inl e)) fun e => .inr (.inr (.inl e)))
  have T3 : Hid (RWent w v v3) := Lib.hid (t3.back (Nat.le_trans F5.out.size ((Kept.refl _).drew.trans k2).size))
  have V3 : Hid (RWent w3 v3 v3) := Lib.hid (.inl rfl)
  clear d3 g3 f3 t3 k2 c0 c1 CS CA KS KSA KSB
  obtain ⟨c0, _, _, _, _, _⟩ := lcell G3.out.blk
  go_wp2_with fail
  refine (replace_is 1 ⟨#[]⟩ 0 (ws ++ [⟨0, q, true⟩] ++ [⟨1, ⟨#[]⟩, true⟩]) _ D3.out (by rw [List.length_append, List.length_singleton]; omega) (by decide) (by decide) (by rw [if_pos rfl, more_whole]; rfl)).mono ?_
  rintro e w4 ⟨rfl, v4, d4, t4, f4⟩
  have G4 := Lib.hid (G3.out.past D3.out (rapart_nil2 _) f4)
  have D4 := Lib.hid d4
  have B4 : Hid (But (LS b d v lv) w w4) := Lib.hid (B3.out.trans f4 fun i hi e => by
    rcases e with e | e
    · exact .inr (.inl e)
    · rcases T3.out with t | t
      · rw [t] at e
        exact .inr (.inr (.inl e))
      · have := t i e
        omega)
  have T4 : Hid (RWent w v v4) := Lib.hid (T3.out.trans t4 B3.out.size)
  clear d4 t4 f4
  go_wp2
  go_ret
  refine ⟨rfl, v4, _, ⟨?_, G4.out, rapart_nil2 _⟩, T4.out, rwent_nil _ _, B4.out⟩
  have := D4.out
  rw [List.append_assoc] at this
  rw [hrow]
  exact this
end Go.Proofs.YtenhncohhikllaaDoor
