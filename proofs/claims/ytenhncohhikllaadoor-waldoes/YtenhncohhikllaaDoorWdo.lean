/-
  A log and its disk; the walks of Sync, Append and Check.
-/
import Derived.Test.YtenhncohhikllaaDoorWlog
namespace Go.Proofs.YtenhncohhikllaaDoor
open Go.ChangeShapes Go.WideShapes Go.ChangeAt Go.RowKit

/-- what the files hold now -/
abbrev nowF (K : Dk.Fl) (ws : List Dk.W) : Dk.Fl := Dk.after K ws (Dk.total ws)
/-- a log in block b over the disk in block d, both known -/
structure LD (w : World) (base b d : Nat) (K : Dk.Fl) (v : Value) (ws : List Dk.W) (x : Wg.St) (lv : Value) (sure : Nat) : Prop where
  dsk : Dsk w base d K v ws
  log : Lg w base b d x lv sure
  ap : RApart v lv
/-- the blocks that such a pair may turn -/
def LS (b d : Nat) (v lv : Value) : Nat → Prop := fun i => i = b ∨ i = d ∨ v.ownBlock = some i ∨ lv.ownBlock = some i
theorem LD.ne {w : World} {base b d : Nat} {K : Dk.Fl} {v : Value} {ws : List Dk.W} {x : Wg.St} {lv : Value} {sure : Nat} (h : LD w base b d K v ws x lv sure) : b ≠ d := fun e => by
  subst e
  have := h.log.blk
  rw [h.dsk.blk] at this
  injection this with this
  injection this with _ h2
  exact absurd h2 (by decide)
theorem LD.kept {w w' : World} {base b d : Nat} {K : Dk.Fl} {v : Value} {ws : List Dk.W} {x : Wg.St} {lv : Value} {sure : Nat} (h : LD w base b d K v ws x lv sure) (k : Kept w w') : LD w' base b d K v ws x lv sure := ⟨h.dsk.kept k, h.log.kept k, h.ap⟩
theorem LD.mono {w : World} {base base' b d : Nat} {K : Dk.Fl} {v : Value} {ws : List Dk.W} {x : Wg.St} {lv : Value} {sure : Nat} (h : LD w base b d K v ws x lv sure) (k : base' ≤ base) : LD w base' b d K v ws x lv sure := ⟨h.dsk.mono k, h.log.mono k, h.ap⟩
theorem LD.low {w : World} {base b d : Nat} {K : Dk.Fl} {v : Value} {ws : List Dk.W} {x : Wg.St} {lv : Value} {sure : Nat} (h : LD w base b d K v ws x lv sure) {i : Nat} (e : LS b d v lv i) : base ≤ i := by
  rcases e with rfl | rfl | e | e
  · exact h.log.low
  · exact h.dsk.low
  · exact (h.dsk.row.blk e).1
  · exact (h.log.row.blk e).1
/-- all that was there ahead is as it was -/
theorem LD.still {W w w' : World} {base b d : Nat} {K : Dk.Fl} {v : Value} {ws : List Dk.W} {x : Wg.St} {lv : Value} {sure : Nat} (h : LD w base b d K v ws x lv sure) (hb : W.heap.size ≤ base) (k : Kept W w) (f : But (LS b d v lv) w w') : Kept W w' :=
  But.after k f fun i hi e => by have := h.low e; omega
/-- a log is not touched by a write to its disk -/
theorem Lg.past {w w' : World} {base base' b d d' : Nat} {K : Dk.Fl} {v : Value} {ws : List Dk.W} {x : Wg.St} {lv : Value} {sure : Nat} (h : Lg w base b d x lv sure) (o : Dsk w base' d' K v ws) (ap : RApart v lv) (k : But (fun i => i = d' ∨ v.ownBlock = some i) w w') : Lg w' base b d x lv sure := by
  refine h.but k ?_ ?_
  · rintro (e | e)
    · subst e
      have := h.blk
      rw [o.blk] at this
      injection this with this
      injection this with _ h2
      exact absurd h2 (by decide)
    · obtain ⟨_, cur, hg⟩ := o.row.blk e
      have := h.blk
      rw [hg] at this
      injection this with this
      injection this with _ h2
      exact absurd h2 (by decide)
  · rintro i e (rfl | e')
    · obtain ⟨_, cur, hg⟩ := h.row.blk e
      have := o.blk
      rw [hg] at this
      injection this with this
      injection this with _ h2
      exact absurd h2 (by decide)
    · exact ap i e' e
/-- a disk is not touched by a write to a log -/
theorem Dsk.beside {w w' : World} {base base' b d d' : Nat} {K : Dk.Fl} {v : Value} {ws : List Dk.W} {x : Wg.St} {lv : Value} {sure : Nat} (o : Dsk w base' d' K v ws) (h : Lg w base b d x lv sure) (ap : RApart v lv) (k : But (fun i => i = b ∨ lv.ownBlock = some i) w w') : Dsk w' base' d' K v ws := by
  refine o.but k ?_ ?_
  · rintro (e | e)
    · subst e
      have := h.blk
      rw [o.blk] at this
      injection this with this
      injection this with _ h2
      exact absurd h2 (by decide)
    · obtain ⟨_, cur, hg⟩ := h.row.blk e
      have := o.blk
      rw [hg] at this
      injection this with this
      injection this with _ h2
      exact absurd h2 (by decide)
  · rintro i e (rfl | e')
    · obtain ⟨_, cur, hg⟩ := o.row.blk e
      have := h.blk
      rw [hg] at this
      injection this with this
      injection this with _ h2
      exact absurd h2 (by decide)
    · exact ap i e e'
/-- behind a call on a log: the pair anew -/
def Went2 (w w' : World) (base b d : Nat) (v lv : Value) (K : Dk.Fl) (ws : List Dk.W) (x : Wg.St) (sure : Nat) : Prop :=
  ∃ v' lv', LD w' base b d K v' ws x lv' sure ∧ RWent w v v' ∧ RWent w lv lv' ∧ But (LS b d v lv) w w'
theorem went2_same {w w' : World} {base b d : Nat} {K : Dk.Fl} {v : Value} {ws : List Dk.W} {x : Wg.St} {lv : Value} {sure : Nat} (h : LD w base b d K v ws x lv sure) (k : Kept w w') : Went2 w w' base b d v lv K ws x sure :=
  ⟨v, lv, h.kept k, .inl rfl, .inl rfl, k.but⟩
theorem rapart_nil2 (u : Value) : RApart u (.slice none 0 0) := fun i _ h => by cases h
theorem rwent_nil (w : World) (v : Value) : RWent w v (.slice none 0 0) := .inr fun i h => by cases h

/-- a cell of a log is written -/
theorem Lg.set {w : World} {base b d : Nat} {x : Wg.St} {lv : Value} {sure : Nat} (h : Lg w base b d x lv sure) {x' : Wg.St} {lv' : Value} {sure' : Nat} {w' : World} (hb : w'.heap[b]? = some (.cells (lcells d x' lv' sure') 68 (0, 0))) (hr : Tx w' base lv' x'.l) (hf : Wg.Few x' sure') : Lg w' base b d x' lv' sure' := ⟨hb, h.low, hr, hf⟩

set_option maxHeartbeats 1000000 in
theorem logsync_any {base b d : Nat} {K : Dk.Fl} {v : Value} {ws : List Dk.W} {x : Wg.St} {lv : Value} {sure : Nat} (w : World) (h : LD w base b d K v ws x lv sure) :
    Calls Tryd.prog 18 #[.pointer (some ⟨b, 0, none⟩)] w fun e w' => e = .returned (.tuple #[]) ∧ Went2 w w' base b d v lv (nowF K ws) [] x x.l.length := by
  obtain ⟨c0, _, _, c3, _, _⟩ := lcell h.log.blk
  have H := Lib.hid h
  clear h
  obtain ⟨a, cap, rfl⟩ := H.out.log.row.form
  go_enter Tryd.func18, Tryd.ntmps18
  go_wp2_with fail
  refine (sync_is w H.out.dsk rfl).mono ?_
  rintro e w1 ⟨rfl, d1, f1⟩
  have L1 := Lib.hid (H.out.log.past H.out.dsk H.out.ap f1)
  obtain ⟨_, _, _, c3', c4', fz⟩ := lcell L1.out.blk
  have D1 := Lib.hid d1
  have F1 := Lib.hid f1
  clear d1 f1 c0 c3
  go_wp2
  go_end0
  have e1 : ((lcells d x (.slice a x.l.length cap) sure).setIfInBounds 4 (.int .i64 x.l.length)) = lcells d x (.slice a x.l.length cap) x.l.length := rfl
  have s1 := sets_one (w0 := w1) ⟨L1.out.blk, But.refl _ _⟩ 4 (.int .i64 x.l.length)
  rw [e1] at s1
  obtain ⟨hb, hbut⟩ := s1
  refine ⟨rfl, _, _, ⟨D1.out.beside L1.out (rapart_nil _) (hbut.mono fun _ _ h => .inl h), ⟨hb, L1.out.low, OffV.other L1.out.row L1.out.blk (by decide) hbut, ⟨L1.out.few.r, L1.out.few.st, L1.out.few.n, L1.out.few.l, L1.out.few.n⟩⟩, rapart_nil _⟩, rwent_nil _ _, .inl rfl, ?_⟩
  exact (F1.out.mono fun i _ e => e.elim (fun e => .inr (.inl e)) fun e => .inr (.inr (.inl e))).trans hbut fun i _ e => .inl e
end Go.Proofs.YtenhncohhikllaaDoor
