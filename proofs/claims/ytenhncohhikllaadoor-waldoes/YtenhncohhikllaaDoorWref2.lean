/-
  The document's log in memory; the walks of its Sync, Append and Check.
-/
import Derived.Test.YtenhncohhikllaaDoorWref
import Derived.Test.YtenhncohhikllaaDoorDref3
import Derived.Test.YtenhncohhikllaaDoorWfix
namespace Go.Proofs.YtenhncohhikllaaDoor
open Go.ChangeShapes Go.WideShapes Go.ChangeAt Go.RowKit

/-- the cells of the document's log -/
def rlcells (d : Nat) (x : Wg.St) (lv : Value) (sure : Nat) : Array Value := #[.pointer (some ⟨d, 0, none⟩), .int .i64 x.r, str x.st, lv, .int .i64 sure]
structure RL (w : World) (base b d : Nat) (x : Wg.St) (lv : Value) (sure : Nat) : Prop where
  blk : w.heap[b]? = some (.cells (rlcells d x lv sure) 73 (0, 0))
  low : base ≤ b
  row : Tx w base lv x.l
  few : Wg.Few x sure
theorem rlcell {w : World} {b d : Nat} {x : Wg.St} {lv : Value} {sure : Nat} (h : w.heap[b]? = some (.cells (rlcells d x lv sure) 73 (0, 0))) :
    w.cell? ⟨b, 0, none⟩ = some (.pointer (some ⟨d, 0, none⟩)) ∧ w.cell? ⟨b, 1, none⟩ = some (.int .i64 x.r) ∧ w.cell? ⟨b, 2, none⟩ = some (str x.st) ∧ w.cell? ⟨b, 3, none⟩ = some lv ∧ w.cell? ⟨b, 4, none⟩ = some (.int .i64 sure) ∧ (∀ i, w.frozen? ⟨b, i, none⟩ = false) := by
  simp [World.cell?, World.frozen?, h, rlcells]
theorem RL.but {S : Nat → Prop} {w w' : World} {base b d : Nat} {x : Wg.St} {lv : Value} {sure : Nat} (h : RL w base b d x lv sure) (k : But S w w') (h1 : ¬ S b) (h2 : ∀ i, lv.ownBlock = some i → ¬ S i) : RL w' base b d x lv sure :=
  ⟨k.at h.blk h1, h.low, h.row.but k h2, h.few⟩
theorem RL.kept {w w' : World} {base b d : Nat} {x : Wg.St} {lv : Value} {sure : Nat} (h : RL w base b d x lv sure) (k : Kept w w') : RL w' base b d x lv sure := h.but (S := fun _ => False) k.but (fun h => h) fun _ _ h => h
/-- the document's log and its disk -/
structure RP (w : World) (base b d : Nat) (K : Dk.Fl) (v : Value) (ws : List Dk.W) (x : Wg.St) (lv : Value) (sure : Nat) : Prop where
  dsk : RD w base d K v ws
  log : RL w base b d x lv sure
theorem RP.kept {w w' : World} {base b d : Nat} {K : Dk.Fl} {v : Value} {ws : List Dk.W} {x : Wg.St} {lv : Value} {sure : Nat} (h : RP w base b d K v ws x lv sure) (k : Kept w w') : RP w' base b d K v ws x lv sure := ⟨h.dsk.kept k, h.log.kept k⟩
theorem RP.low {w : World} {base b d : Nat} {K : Dk.Fl} {v : Value} {ws : List Dk.W} {x : Wg.St} {lv : Value} {sure : Nat} (h : RP w base b d K v ws x lv sure) {i : Nat} (e : LS b d v lv i) : base ≤ i := by
  rcases e with rfl | rfl | e | e
  · exact h.log.low
  · exact h.dsk.low
  · exact (h.dsk.row.blk e).1
  · exact (h.log.row.blk e).1
theorem RP.still {W w w' : World} {base b d : Nat} {K : Dk.Fl} {v : Value} {ws : List Dk.W} {x : Wg.St} {lv : Value} {sure : Nat} (h : RP w base b d K v ws x lv sure) (hb : W.heap.size ≤ base) (k : Kept W w) (f : But (LS b d v lv) w w') : Kept W w' :=
  But.after k f fun i hi e => by have := h.low e; omega
theorem RD.still {W w w' : World} {base b : Nat} {K : Dk.Fl} {v : Value} {ws : List Dk.W} (h : RD w base b K v ws) (hb : W.heap.size ≤ base) (k : Kept W w) (f : But (fun i => i = b ∨ v.ownBlock = some i) w w') : Kept W w' :=
  But.after k f fun i hi e => by
    rcases e with rfl | e
    · have := h.low; omega
    · have := (h.row.blk e).1; omega
/-- the document's disk is not touched by a write to its log -/
theorem RD.beside {w w' : World} {base base' b d d' : Nat} {K : Dk.Fl} {v : Value} {ws : List Dk.W} {x : Wg.St} {lv : Value} {sure : Nat} (o : RD w base' d' K v ws) (h : RL w base b d x lv sure) (k : But (fun i => i = b ∨ lv.ownBlock = some i) w w') : RD w' base' d' K v ws := by
  refine o.but k ?_ ?_
  · rintro (e | e)
    · subst e
      exact type_ne o.blk h.blk (by decide)
    · obtain ⟨_, cur, hg⟩ := h.row.blk e
      exact type_ne o.blk hg (by decide)
  · rintro i e (rfl | e')
    · obtain ⟨_, cur, hg⟩ := o.row.blk e
      exact type_ne hg h.blk (by decide)
    · obtain ⟨_, cur, hg⟩ := o.row.blk e
      obtain ⟨_, cur2, hg2⟩ := h.row.blk e'
      exact type_ne hg hg2 (by decide)
/-- the document's log is not touched by a write to its disk -/
theorem RL.past {w w' : World} {base base' b d d' : Nat} {K : Dk.Fl} {v : Value} {ws : List Dk.W} {x : Wg.St} {lv : Value} {sure : Nat} (h : RL w base b d x lv sure) (o : RD w base' d' K v ws) (k : But (fun i => i = d' ∨ v.ownBlock = some i) w w') : RL w' base b d x lv sure := by
  refine h.but k ?_ ?_
  · rintro (e | e)
    · subst e
      exact type_ne h.blk o.blk (by decide)
    · obtain ⟨_, cur, hg⟩ := o.row.blk e
      exact type_ne h.blk hg (by decide)
  · rintro i e (rfl | e')
    · obtain ⟨_, cur, hg⟩ := h.row.blk e
      exact type_ne hg o.blk (by decide)
    · obtain ⟨_, cur, hg⟩ := h.row.blk e
      obtain ⟨_, cur2, hg2⟩ := o.row.blk e'
      exact type_ne hg hg2 (by decide)
def RWent2 (w w' : World) (base b d : Nat) (v lv : Value) (K : Dk.Fl) (ws : List Dk.W) (x : Wg.St) (sure : Nat) : Prop :=
  ∃ v' lv', RP w' base b d K v' ws x lv' sure ∧ RWent w v v' ∧ RWent w lv lv' ∧ But (LS b d v lv) w w'

set_option maxHeartbeats 1000000 in
theorem rlsync_any {base b d : Nat} {K : Dk.Fl} {v : Value} {ws : List Dk.W} {x : Wg.St} {lv : Value} {sure : Nat} (w : World) (h : RP w base b d K v ws x lv sure) :
    Calls Tryd.prog 19 #[.pointer (some ⟨b, 0, none⟩)] w fun e w' => e = .returned (.tuple #[]) ∧ RP w' base b d (nowF K ws) (.slice none 0 0) [] x lv x.l.length ∧ But (fun i => i = b ∨ i = d) w w' := by
  obtain ⟨c0, _, _, c3, _, _⟩ := rlcell h.log.blk
  have H := Lib.hid h
  clear h
  obtain ⟨a, cap, rfl⟩ := H.out.log.row.form
  go_enter Tryd.func19, Tryd.ntmps19
  go_wp2_with fail
  refine (rsync_any w H.out.dsk).mono ?_
  rintro e w1 ⟨rfl, d1, f1⟩
  have L1 := Lib.hid (H.out.log.past H.out.dsk (f1.mono fun _ _ e => .inl e))
  obtain ⟨_, _, _, c3', c4', fz⟩ := rlcell L1.out.blk
  have D1 := Lib.hid d1
  have F1 := Lib.hid f1
  clear d1 f1 c0 c3
  go_wp2
  go_end0
  have e1 : ((rlcells d x (.slice a x.l.length cap) sure).setIfInBounds 4 (.int .i64 x.l.length)) = rlcells d x (.slice a x.l.length cap) x.l.length := rfl
  have s1 := sets_one (w0 := w1) ⟨L1.out.blk, But.refl _ _⟩ 4 (.int .i64 x.l.length)
  rw [e1] at s1
  obtain ⟨hb, hbut⟩ := s1
  refine ⟨rfl, ⟨D1.out.beside L1.out (hbut.mono fun _ _ h => .inl h), ⟨hb, L1.out.low, OffV.other L1.out.row L1.out.blk (by decide) hbut, ⟨L1.out.few.r, L1.out.few.st, L1.out.few.n, L1.out.few.l, L1.out.few.n⟩⟩⟩, ?_⟩
  exact (F1.out.mono fun i _ e => .inr e).trans hbut fun i _ e => .inl e

set_option maxHeartbeats 2000000 in
set_option maxRecDepth 100000 in
theorem rlappend_any {base b d : Nat} {K : Dk.Fl} {v : Value} {ws : List Dk.W} {x : Wg.St} {lv : Value} {sure : Nat} (s : ByteArray) (w : World) (h : RP w base b d K v ws x lv sure) (hs : s.size ≤ 1024) (hl : ws.length < 1000000) (hn : x.l.length < 1000000)
    (hfit : (nowF K ws 1).size + (Wg.rowb x s.data.toList).size ≤ 65536) :
    Calls Tryd.prog 15 #[.pointer (some ⟨b, 0, none⟩), .string s] w fun e w' => e = .returned (.int .i64 0) ∧ RWent2 w w' base b d v lv K (ws ++ [⟨1, Wg.rowb x s.data.toList, false⟩]) (x.add s.data.toList) sure := by
  obtain ⟨c0, c1, _, _, _, _⟩ := rlcell h.log.blk
  have hr := h.log.few.r
  have CS : Hid (∀ w', Kept w w' → Calls Tryd.prog 47 #[.int .i64 x.r, .string s] w' fun e w'' => e = .returned (.string (Wg.rowb x s.data.toList)) ∧ Kept w' w'') := Lib.hid fun w' k =>
    (refrow_any x.r s w' (by omega) (by omega)).mono fun e w'' ⟨h1, h2⟩ => ⟨h1, h2⟩
  have CA : Hid (∀ w', Kept w w' → Calls Tryd.prog 21 #[.pointer (some ⟨d, 0, none⟩), .int .i64 1, .string (Wg.rowb x s.data.toList)] w' fun e w'' => e = .returned (.int .i64 0) ∧ RWrote w' w'' base d K v (ws ++ [⟨1, Wg.rowb x s.data.toList, false⟩])) := Lib.hid fun w' k =>
    rapp_ok 1 _ w' (h.dsk.kept k) (by decide) hfit hl
  have KS : Hid (∀ w', Kept w w' → w'.cell? ⟨b, 0, none⟩ = some (.pointer (some ⟨d, 0, none⟩)) ∧ w'.cell? ⟨b, 1, none⟩ = some (.int .i64 x.r)) := Lib.hid fun w' k => by
    obtain ⟨c0, c1, _⟩ := rlcell (h.log.kept k).blk
    exact ⟨c0, c1⟩
  have KSA : Hid (∀ w' w'', Kept w w' → But (fun i => i = d ∨ v.ownBlock = some i) w' w'' → RL w'' base b d x lv sure) := Lib.hid fun w' w'' k f =>
    (h.log.kept k).past (h.dsk.kept k) f
  have KSB : Hid (∀ w'', RL w'' base b d x lv sure → w''.cell? ⟨b, 0, none⟩ = some (.pointer (some ⟨d, 0, none⟩)) ∧ w''.cell? ⟨b, 1, none⟩ = some (.int .i64 x.r)) := Lib.hid fun w'' g => by
    obtain ⟨c0, c1, _⟩ := rlcell g.blk
    exact ⟨c0, c1⟩
  have H := Lib.hid h
  have HN := Lib.hid hn
  generalize Wg.rowb x s.data.toList = q at CS CA ⊢
  clear h hfit hn
  go_enter Tryd.func15, Tryd.ntmps15
  go_wp2_with fail
  go_region_held3 (fun w' => w'.cell? ⟨b, 0, none⟩ = some (.pointer (some ⟨d, 0, none⟩)) ∧ w'.cell? ⟨b, 1, none⟩ = some (.int .i64 x.r))
    (first | exact KS.out _ (Kept.refl _).drew | exact KS.out _ ((Kept.refl _).drew.trans k2) | exact KSB.out _ g3)
    (first
      | (go_at_call 47; refine (CS.out _ (Kept.refl _).drew).mono ?_; rintro e w2 ⟨rfl, k2⟩)
      | (go_at_call 21; refine (CA.out _ ((Kept.refl _).drew.trans k2)).mono ?_; rintro e w3 ⟨rfl, v3, d3, t3, f3⟩; have g3 := KSA.out _ _ ((Kept.refl _).drew.trans k2) f3))
  have D3 := Lib.hid d3
  have G3 := Lib.hid g3
  have B3 : Hid (But (LS b d v lv) w w3) := Lib.hid (((Kept.refl _).drew.trans k2).but.trans f3 fun i _ e => e.elim (fun e => .inr (.inl e)) fun e => .inr (.inr (.inl e)))
  have T3 : Hid (RWent w v v3) := Lib.hid (t3.back ((Kept.refl _).drew.trans k2).size)
  clear d3 g3 f3 t3 k2 c0 c1 CS CA KS KSA KSB
  obtain ⟨a, cap, rfl⟩ := G3.out.row.form
  obtain ⟨_, _, _, c3, _, _⟩ := rlcell G3.out.blk
  have k5 : Kept w3 (w3.alloc (.cells #[.string s] 9)) := (Kept.refl w3).alloc _
  have R5 : Hid (OffV 9 1 (w3.alloc (.cells #[.string s] 9)) base (.slice a x.l.length cap) x.l.length (x.l.map str)) := Lib.hid (G3.out.kept k5).row
  have HB5 : Hid (base ≤ (w3.alloc (.cells #[.string s] 9)).heap.size) := Lib.hid (by have := G3.out.low; have := heap_lt G3.out.blk; rw [World.size_alloc]; omega)
  have hn1 : x.l.length + 1 ≤ 1000001 := by have := HN.out; omega
  have K5 := Lib.hid k5
  clear k5
  go_wp2_with (at_builtin; refine wp_rapp rowS (base := base) (v := .slice a x.l.length cap) (n := x.l.length) (m := 1) (xs := x.l.map str) (ys := [.string s]) R5.out (Src.one w3 [.string s] 9 rfl (one_one s)) hn1 HB5.out rfl _ _ rfl rfl rfl ?_)
  intro v6 w6 o6 g6 b6 n6
  obtain ⟨a6, p6, rfl⟩ := o6.form
  have h6 : w6.heap[b]? = some (.cells (rlcells d x (.slice a x.l.length cap) sure) 73 (0, 0)) := by
    refine b6.at (G3.out.kept K5.out).blk fun e => ?_
    obtain ⟨_, cur, hg⟩ := R5.out.blk e
    exact type_ne hg (G3.out.kept K5.out).blk (by decide)
  obtain ⟨_, _, _, d3c, _, d3f⟩ := rlcell h6
  have O6 := Lib.hid o6
  have H6 := Lib.hid h6
  have B6 := Lib.hid b6
  have G6 := Lib.hid g6
  clear o6 h6 b6 g6 n6 c3
  go_wp2
  go_ret
  refine ⟨rfl, ?_⟩
  obtain ⟨hb, hbut⟩ := sets_one (w0 := w6) ⟨H6.out, But.refl _ _⟩ 3 (.slice a6 (x.l.length + 1) p6)
  have e1 : (rlcells d x (.slice a x.l.length cap) sure).setIfInBounds 3 (.slice a6 (x.l.length + 1) p6) = rlcells d (x.add s.data.toList) (.slice a6 (x.l.length + 1) p6) sure := rfl
  rw [e1] at hb
  have D5 := D3.out.kept K5.out
  have G5 := G3.out.kept K5.out
  have B7 : But (fun i => i = b ∨ (Value.slice a x.l.length cap).ownBlock = some i) (w3.alloc (.cells #[.string s] 9)) (w6.setCell ⟨b, 3, none⟩ (.slice a6 (x.l.length + 1) p6)) := (B6.out.mono fun _ _ e => .inr e).trans hbut fun _ _ e => .inl e
  have O7 : Tx (w6.setCell ⟨b, 3, none⟩ (.slice a6 (x.l.length + 1) p6)) base (.slice a6 (x.l.length + 1) p6) (x.add s.data.toList).l := by
    have h1 := OffV.other O6.out H6.out (by decide) hbut
    unfold Tx Wg.St.add
    simp only
    rw [List.length_append, List.map_append]
    exact h1
  refine ⟨v3, _, ⟨D5.beside G5 B7, ⟨hb, G5.low, O7, ⟨G5.few.r, G5.few.st, ?_, ?_, G5.few.sure⟩⟩⟩, T3.out, ?_, ?_⟩
  · unfold Wg.St.add
    simp only [List.length_append, List.length_singleton]
    have := HN.out
    omega
  · intro y hy
    rcases List.mem_append.1 hy with hy | hy
    · exact G5.few.l y hy
    · rw [List.mem_singleton.1 hy, size_len]; omega
  · exact G6.out.back (Nat.le_trans B3.out.size K5.out.size)
  · exact (B3.out.trans K5.out.but fun _ _ h => h).trans B7 fun i _ e => e.elim .inl fun e => .inr (.inr (.inr e))

set_option maxHeartbeats 2000000 in
set_option maxRecDepth 100000 in
theorem rlcheck_any {base b d : Nat} {K : Dk.Fl} {v : Value} {ws : List Dk.W} {x : Wg.St} {lv : Value} {sure : Nat} (s : ByteArray) (w : World) (h : RP w base b d K v ws x lv sure) (hs : s.size ≤ 16384) (hl : ws.length + 2 ≤ 1000000) (hr : x.r < 1099511628776) :
    Calls Tryd.prog 17 #[.pointer (some ⟨b, 0, none⟩), .string s] w fun e w' => e = .returned (.int .i64 0) ∧
      RWent2 w w' base b d v lv K (ws ++ [⟨0, Wg.rowb (x.chk s.data.toList) s.data.toList, true⟩, ⟨1, ⟨#[]⟩, true⟩]) (x.chk s.data.toList) 0 := by
  obtain ⟨g0, g1, g2, g3, g4, gz⟩ := rlcell h.log.blk
  have H := Lib.hid h
  have r1 : IntKind.i64.wrap ((x.r : Int) + 1) = (x.r : Int) + 1 := by rw [IntKind.wrap_i64]; omega
  have hq := Wg.rowb_size (x.chk s.data.toList) s.data.toList
  rw [size_len] at hq
  clear h
  go_enter Tryd.func17, Tryd.ntmps17
  go_wp2_with fail
  have s5 := sets_one (sets_one (sets_one (sets_one (w0 := w) ⟨H.out.log.blk, But.refl _ _⟩ 1 (.int .i64 (x.r + 1 : Int))) 2 (.string s)) 3 (.slice none 0 0)) 4 (.int .i64 0)
  have e5 : ((((rlcells d x lv sure).setIfInBounds 1 (.int .i64 (x.r + 1 : Int))).setIfInBounds 2 (.string s)).setIfInBounds 3 (.slice none 0 0)).setIfInBounds 4 (.int .i64 0) = rlcells d (x.chk s.data.toList) (.slice none 0 0) 0 := rfl
  rw [e5] at s5
  generalize (((w.setCell ⟨b, 1, none⟩ (.int .i64 (x.r + 1 : Int))).setCell ⟨b, 2, none⟩ (.string s)).setCell ⟨b, 3, none⟩ (.slice none 0 0)).setCell ⟨b, 4, none⟩ (.int .i64 0) = w5 at s5 ⊢
  obtain ⟨h5, f5⟩ := s5
  have l5 : RP w5 base b d K v ws (x.chk s.data.toList) (.slice none 0 0) 0 :=
    ⟨H.out.dsk.beside H.out.log (f5.mono fun _ _ e => .inl e), ⟨h5, H.out.log.low, Tx.nil _ _, ⟨by show x.r + 1 ≤ _; omega, by show s.data.toList.length ≤ _; rw [size_len]; omega, Nat.zero_le _, (fun y hy => by cases hy), Nat.zero_le _⟩⟩⟩
  have L5 := Lib.hid l5
  have F5 := Lib.hid f5
  have hx1 : (x.chk s.data.toList).r = x.r + 1 := rfl
  clear h5 f5 l5 g0 g1 g2 g3 g4 gz
  obtain ⟨c0, c1, _, _, _, _⟩ := rlcell L5.out.log.blk
  have CS : Hid (∀ w', Kept w5 w' → Calls Tryd.prog 47 #[.int .i64 (x.chk s.data.toList).r, .string s] w' fun e w'' => e = .returned (.string (Wg.rowb (x.chk s.data.toList) s.data.toList)) ∧ Kept w' w'') := Lib.hid fun w' k =>
    (refrow_any (x.chk s.data.toList).r s w' (by omega) (by omega)).mono fun e w'' ⟨h1, h2⟩ => ⟨h1, h2⟩
  have CA : Hid (∀ w', Kept w5 w' → Calls Tryd.prog 26 #[.pointer (some ⟨d, 0, none⟩), .int .i64 0, .string (Wg.rowb (x.chk s.data.toList) s.data.toList)] w' fun e w'' => e = .returned (.int .i64 0) ∧ RWrote w' w'' base d K v (ws ++ [⟨0, Wg.rowb (x.chk s.data.toList) s.data.toList, true⟩])) := Lib.hid fun w' k =>
    rrep_ok 0 _ w' (L5.out.dsk.kept k) (by decide) (by omega) (by omega)
  have KS : Hid (∀ w', Kept w5 w' → w'.cell? ⟨b, 0, none⟩ = some (.pointer (some ⟨d, 0, none⟩)) ∧ w'.cell? ⟨b, 1, none⟩ = some (.int .i64 (x.chk s.data.toList).r)) := Lib.hid fun w' k => by
    obtain ⟨c0, c1, _⟩ := rlcell (L5.out.log.kept k).blk
    exact ⟨c0, c1⟩
  have KSA : Hid (∀ w' w'', Kept w5 w' → But (fun i => i = d ∨ v.ownBlock = some i) w' w'' → RL w'' base b d (x.chk s.data.toList) (.slice none 0 0) 0) := Lib.hid fun w' w'' k f =>
    (L5.out.log.kept k).past (L5.out.dsk.kept k) f
  have KSB : Hid (∀ w'', RL w'' base b d (x.chk s.data.toList) (.slice none 0 0) 0 → w''.cell? ⟨b, 0, none⟩ = some (.pointer (some ⟨d, 0, none⟩)) ∧ w''.cell? ⟨b, 1, none⟩ = some (.int .i64 (x.chk s.data.toList).r)) := Lib.hid fun w'' g => by
    obtain ⟨c0, c1, _⟩ := rlcell g.blk
    exact ⟨c0, c1⟩
  generalize hrow : Wg.rowb (x.chk s.data.toList) s.data.toList = q at CS CA ⊢
  go_region_held3 (fun w' => w'.cell? ⟨b, 0, none⟩ = some (.pointer (some ⟨d, 0, none⟩)) ∧ w'.cell? ⟨b, 1, none⟩ = some (.int .i64 (x.chk s.data.toList).r))
    (first | exact KS.out _ (Kept.refl _).drew | exact KS.out _ ((Kept.refl _).drew.trans k2) | exact KSB.out _ g3)
    (first
      | (go_at_call 47; refine (CS.out _ (Kept.refl _).drew).mono ?_; rintro e w2 ⟨rfl, k2⟩)
      | (go_at_call 26; refine (CA.out _ ((Kept.refl _).drew.trans k2)).mono ?_; rintro e w3 ⟨rfl, v3, d3, t3, f3⟩; have g3 := KSA.out _ _ ((Kept.refl _).drew.trans k2) f3))
  have D3 := Lib.hid d3
  have G3 := Lib.hid g3
  have B3 : Hid (But (LS b d v lv) w w3) := Lib.hid (((F5.out.mono fun _ _ e => .inl e).trans ((Kept.refl _).drew.trans k2).but fun _ _ h => h).trans f3 fun i _ e => e.elim (fun e => .inr (.inl e)) fun e => .inr (.inr (.inl e)))
  have T3 : Hid (RWent w v v3) := Lib.hid (t3.back (Nat.le_trans F5.out.size ((Kept.refl _).drew.trans k2).size))
  clear d3 g3 f3 t3 k2 c0 c1 CS CA KS KSA KSB
  obtain ⟨c0, _, _, _, _, _⟩ := rlcell G3.out.blk
  go_wp2_with fail
  refine (rrep_ok 1 ⟨#[]⟩ _ D3.out (by decide) (by decide) (by rw [List.length_append, List.length_singleton]; omega)).mono ?_
  rintro e w4 ⟨rfl, v4, d4, t4, f4⟩
  have G4 := Lib.hid (G3.out.past D3.out f4)
  have D4 := Lib.hid d4
  have B4 : Hid (But (LS b d v lv) w w4) := Lib.hid (B3.out.trans f4 fun i hi e => by
    rcases e with e | e
    · exact .inr (.inl e)
    · rcases T3.out with t | t
      · rw [t] at e
        exact .inr (.inr (.inl e))
      · have := t i e
        omega)
  have T4 : Hid (RWent w v v4) := Lib.hid (T3.out.trans t4 B3.out.size)
  clear d4 t4 f4
  go_wp2
  go_ret
  refine ⟨rfl, v4, _, ⟨?_, G4.out⟩, T4.out, rwent_nil _ _, B4.out⟩
  have := D4.out
  rw [List.append_assoc] at this
  rw [hrow]
  exact this
end Go.Proofs.YtenhncohhikllaaDoor
