/-
  The walk of Append.
-/
import Derived.Test.YtenhncohhikllaaDoorWdo
import Derived.Deep.RegionLaw
namespace Go.Proofs.YtenhncohhikllaaDoor
open Go.ChangeShapes Go.WideShapes Go.ChangeAt Go.RowKit

/-- a call of a Go function, as a step of a region -/
theorem step_go {w : World} {ops : Array Oper} {o : Oper} {a : Act} {K : Act → World → Prop} {Q : Exit → Act → World → Prop} {E : Prop} (hg : o.guard = none) (f : FuncId) (args : Array Value) (he : (execOp a.eval o).run Tryd.prog w = .ok (.enter f args) w)
    (h : Calls Tryd.prog f args w fun e w' => ∃ v, e = .returned v ∧ K (a.put o.dst v) w') : if Region.wanted o (yielded ops a.tmps) = true then Oper.wp Tryd.prog o a w K Q else E := by
  rw [if_pos (by simp [Region.wanted, hg])]
  unfold Oper.wp
  rw [he, Oper.upon_enter]
  refine h.mono ?_
  rintro e w' ⟨v, rfl, hk⟩
  exact hk
theorem ba_str (l : List UInt8) : str l = .string (Wg.ba l) := rfl
/-- a record's row, as it stands on the disk -/
def Wg.rowb (x : Wg.St) (s : List UInt8) : ByteArray := Wg.ba (Ck.seal_ (Wg.row x.r s))
theorem Wg.rowb_size (x : Wg.St) (s : List UInt8) : (Wg.rowb x s).size ≤ s.length + 22 ∧ 0 < (Wg.rowb x s).size := by
  unfold Wg.rowb
  rw [Wg.ba_size]
  refine ⟨Wg.seal_row_le _ _, ?_⟩
  rw [Ck.seal_length]
  omega
/-- a record more -/
def Wg.St.add (x : Wg.St) (s : List UInt8) : Wg.St := { x with l := x.l ++ [s] }

set_option maxHeartbeats 400000 in
theorem logappend_big (b : Nat) (s : ByteArray) (w : World) (hs : 1024 < s.size) (hm : s.size ≤ maxLen) :
    Calls Tryd.prog 14 #[.pointer (some ⟨b, 0, none⟩), .string s] w fun e w' => e = .returned (.int .i64 2) ∧ Kept w w' := by
  unfold maxLen at hm
  go_enter Tryd.func14, Tryd.ntmps14
  go_wp2
  go_ret
  exact ⟨rfl, Kept.refl w⟩

/-- behind an Append's last store -/
theorem app_end {w w3 w5 w6 : World} {base b d : Nat} {K : Dk.Fl} {v v3 lv v6 : Value} {ws ws' : List Dk.W} {x : Wg.St} {sure : Nat} {s : ByteArray} (_H : LD w base b d K v ws x lv sure) (D3 : Dsk w3 base d K v3 ws') (G3 : Lg w3 base b d x lv sure) (B3 : But (LS b d v lv) w w3) (T3 : RWent w v v3) (AP3 : RApart v3 lv)
    (K5 : Kept w3 w5) (O6 : OffV 9 1 w6 base v6 (x.l.length + 1) (x.l.map str ++ [.string s])) (H6 : w6.heap[b]? = some (.cells (lcells d x lv sure) 68 (0, 0))) (B6 : But (fun i => lv.ownBlock = some i) w5 w6) (G6 : RWent w5 lv v6) (hn : x.l.length < 1000000) (hs : s.size ≤ 1024) :
    Went2 w (w6.setCell ⟨b, 3, none⟩ v6) base b d v lv K ws' (x.add s.data.toList) sure := by
  obtain ⟨hb, hbut⟩ := sets_one (w0 := w6) ⟨H6, But.refl _ _⟩ 3 v6
  have e1 : (lcells d x lv sure).setIfInBounds 3 v6 = lcells d (x.add s.data.toList) v6 sure := rfl
  rw [e1] at hb
  have D5 := D3.kept K5
  have G5 := G3.kept K5
  have B7 : But (fun i => i = b ∨ lv.ownBlock = some i) w5 (w6.setCell ⟨b, 3, none⟩ v6) := (B6.mono fun _ _ e => .inr e).trans hbut fun _ _ e => .inl e
  have O7 : Tx (w6.setCell ⟨b, 3, none⟩ v6) base v6 (x.add s.data.toList).l := by
    have h1 := OffV.other O6 H6 (by decide) hbut
    unfold Tx Wg.St.add
    simp only
    rw [List.length_append, List.map_append]
    exact h1
  refine ⟨v3, v6, ⟨D5.beside G5 AP3 B7, ⟨hb, G5.low, O7, ⟨G5.few.r, G5.few.st, ?_, ?_, G5.few.sure⟩⟩, ?_⟩, T3, ?_, ?_⟩
  · unfold Wg.St.add
    simp only [List.length_append, List.length_singleton]
    omega
  · intro y hy
    rcases List.mem_append.1 hy with hy | hy
    · exact G5.few.l y hy
    · rw [List.mem_singleton.1 hy, size_len]; omega
  · exact (AP3.symm.went G6 D5.row).symm
  · exact G6.back (Nat.le_trans B3.size K5.size)
  · exact (B3.trans K5.but fun _ _ h => h).trans B7 fun i _ e => e.elim .inl fun e => .inr (.inr (.inr e))

set_option maxHeartbeats 2000000 in
set_option maxRecDepth 100000 in
theorem logappend_any {base b d : Nat} {K : Dk.Fl} {v : Value} {ws : List Dk.W} {x : Wg.St} {lv : Value} {sure : Nat} (s : ByteArray) (w : World) (h : LD w base b d K v ws x lv sure) (hs : s.size ≤ 1024) (hl : ws.length < 1000000) (hn : x.l.length < 1000000) (hT : Tab w)
    (hfit : (nowF K ws 1).size + (Wg.rowb x s.data.toList).size ≤ 65536) :
    Calls Tryd.prog 14 #[.pointer (some ⟨b, 0, none⟩), .string s] w fun e w' => e = .returned (.int .i64 0) ∧ Went2 w w' base b d v lv K (ws ++ [⟨1, Wg.rowb x s.data.toList, false⟩]) (x.add s.data.toList) sure := by
  obtain ⟨c0, c1, _, _, _, _⟩ := lcell h.log.blk
  have hr := h.log.few.r
  have hq := Wg.rowb_size x s.data.toList
  rw [size_len] at hq
  have hans : Dk.ansA (nowF K ws) 1 (Wg.rowb x s.data.toList) = 0 := by
    unfold Dk.ansA
    rw [if_pos (by omega), if_pos (by exact hfit)]
  have hmore : (if (0 : Int) = 0 then Dk.more ws ⟨(1 : Int).toNat, Wg.rowb x s.data.toList, false⟩ else ws) = ws ++ [⟨1, Wg.rowb x s.data.toList, false⟩] := by
    rw [if_pos rfl]
    unfold Dk.more
    rw [if_neg (by unfold Dk.units; simp only [Bool.false_eq_true, if_false]; omega)]
    rfl
  have CS : Hid (∀ w', Kept w w' → Calls Tryd.prog 45 #[.int .u64 x.r, .string s] w' fun e w'' => e = .returned (.string (Wg.rowb x s.data.toList)) ∧ Kept w' w'') := Lib.hid fun w' k =>
    (wseal_any x.r s w' (by omega) (by omega) (hT.kept k)).mono fun e w'' ⟨h1, h2⟩ => ⟨h1, h2⟩
  have CA : Hid (∀ w', Kept w w' → Calls Tryd.prog 20 #[.pointer (some ⟨d, 0, none⟩), .int .i64 1, .string (Wg.rowb x s.data.toList)] w' fun e w'' => e = .returned (.int .i64 0) ∧ Wrote w' w'' base d K v (ws ++ [⟨1, Wg.rowb x s.data.toList, false⟩])) := Lib.hid fun w' k =>
    append_is 1 _ 0 _ w' (h.dsk.kept k) hl (by omega) hans hmore
  have KS : Hid (∀ w', Kept w w' → w'.cell? ⟨b, 0, none⟩ = some (.pointer (some ⟨d, 0, none⟩)) ∧ w'.cell? ⟨b, 1, none⟩ = some (.int .u64 x.r)) := Lib.hid fun w' k => by
    obtain ⟨c0, c1, _⟩ := lcell (h.log.kept k).blk
    exact ⟨c0, c1⟩
  have KSA : Hid (∀ w' w'', Kept w w' → But (fun i => i = d ∨ v.ownBlock = some i) w' w'' → Lg w'' base b d x lv sure) := Lib.hid fun w' w'' k f =>
    (h.log.kept k).past (h.dsk.kept k) h.ap f
  have KSB : Hid (∀ w'', Lg w'' base b d x lv sure → w''.cell? ⟨b, 0, none⟩ = some (.pointer (some ⟨d, 0, none⟩)) ∧ w''.cell? ⟨b, 1, none⟩ = some (.int .u64 x.r)) := Lib.hid fun w'' g => by
    obtain ⟨c0, c1, _⟩ := lcell g.blk
    exact ⟨c0, c1⟩
  have H := Lib.hid h
  have HN := Lib.hid hn
  generalize hrow : Wg.rowb x s.data.toList = q at CS CA ⊢
  clear h hT hfit hans hmore hq hn hrow
  go_enter Tryd.func14, Tryd.ntmps14
  go_wp2_with fail
  go_region_held3 (fun w' => w'.cell? ⟨b, 0, none⟩ = some (.pointer (some ⟨d, 0, none⟩)) ∧ w'.cell? ⟨b, 1, none⟩ = some (.int .u64 x.r))
    (first | exact KS.out _ (Kept.refl _).drew | exact KS.out _ ((Kept.refl _).drew.trans k2) | exact KSB.out _ g3)
    (first
      | (go_at_call 45; refine (CS.out _ (Kept.refl _).drew).mono ?_; rintro e w2 ⟨rfl, k2⟩)
      | (go_at_call 20; refine (CA.out _ ((Kept.refl _).drew.trans k2)).mono ?_; rintro e w3 ⟨rfl, v3, d3, t3, f3⟩; have g3 := KSA.out _ _ ((Kept.refl _).drew.trans k2) f3))
  have D3 := Lib.hid d3
  have G3 := Lib.hid g3
  have B3 : Hid (But (LS b d v lv) w w3) := Lib.hid (((Kept.refl _).drew.trans k2).but.trans f3 fun i _ e => e.elim (fun e => .inr (.inl e)) fun e => .inr (.inr (.inl e)))
  have T3 : Hid (RWent w v v3) := Lib.hid (t3.back ((Kept.refl _).drew.trans k2).size)
  have AP3 : Hid (RApart v3 lv) := Lib.hid (H.out.ap.went t3 (H.out.log.kept ((Kept.refl _).drew.trans k2)).row)
  clear d3 g3 f3 t3 k2 c0 c1 CS CA KS KSA KSB
  obtain ⟨a, cap, rfl⟩ := G3.out.row.form
  have C3 : Hid (∀ w', Kept w3 w' → w'.cell? ⟨b, 3, none⟩ = some (.slice a x.l.length cap)) := Lib.hid fun w' k => by
    obtain ⟨_, _, _, c3, _⟩ := lcell (G3.out.kept k).blk
    exact c3
  have R3 : Hid (∀ w', Kept w3 w' → OffV 9 1 w' base (.slice a x.l.length cap) x.l.length (x.l.map str) ∧ base ≤ w'.heap.size) := Lib.hid fun w' k => by
    have h1 := (G3.out.kept k).row
    have h2 := (G3.out.kept k).low
    have h3 := heap_lt (G3.out.kept k).blk
    unfold Tx at h1
    exact ⟨h1, by omega⟩
  have F3 : Hid (∀ w' w'', Kept w3 w' → But (fun i => (Value.slice a x.l.length cap).ownBlock = some i) w' w'' → w''.heap[b]? = some (.cells (lcells d x (.slice a x.l.length cap) sure) 68 (0, 0)) ∧ w''.cell? ⟨b, 3, none⟩ = some (.slice a x.l.length cap) ∧ w''.frozen? ⟨b, 3, none⟩ = false) := Lib.hid fun w' w'' k f => by
    have h1 := (G3.out.kept k).blk
    have h2 : w''.heap[b]? = some (.cells (lcells d x (.slice a x.l.length cap) sure) 68 (0, 0)) := by
      refine f.at h1 fun e => ?_
      obtain ⟨_, cur, hg⟩ := OffV.blk (G3.out.kept k).row e
      rw [hg] at h1
      injection h1 with h1
      injection h1 with _ h2
      exact absurd h2 (by decide)
    exact ⟨h2, (lcell h2).2.2.2.1, (lcell h2).2.2.2.2.2 3⟩
  have hn1 : x.l.length + 1 ≤ 1000001 := by have := HN.out; omega
  go_wp2_with fail
  have c3 := C3.out _ ((Kept.refl w3).drew)
  have hsz : s.size ≤ 281474976710656 := by omega
  go_region_law (first
      | (refine step_go rfl 46 #[.string s] (by kernel_rfl) ?_; refine (clone_any s _ hsz).mono ?_; rintro e w4 ⟨rfl, k4⟩; refine ⟨_, rfl, ?_⟩; have c34 := C3.out _ ((Kept.refl w3).drew.trans k4); have c35 := C3.out _ (((Kept.refl w3).drew.trans k4).alloc (.cells #[.string s] 9)))
      | (refine step_rapp rowS (ys := [.string s]) (R3.out _ (((Kept.refl w3).drew.trans k4).alloc _)).1 (Src.one _ [.string s] 9 rfl (one_one s)) hn1 (R3.out _ (((Kept.refl w3).drew.trans k4).alloc _)).2 rfl (.tmp 27) (.tmp 30) rfl (by simp [Act.eval]) (by simp [Act.eval]) ?_; intro v6 w6 o6 g6 b6 n6; obtain ⟨a6, p6, rfl⟩ := o6.form; obtain ⟨h6, c36, f36⟩ := F3.out _ _ (((Kept.refl w3).drew.trans k4).alloc _) b6))
  all_goals
    have k5 : Kept w3 (w4.alloc (.cells #[.string s] 9)) := ((Kept.refl w3).drew.trans k4).alloc _
    have O6 := Lib.hid o6
    have H6 := Lib.hid h6
    have B6 := Lib.hid b6
    have G6 := Lib.hid g6
    have K5 := Lib.hid k5
    clear o6 h6 b6 g6 k5 n6
    go_wp2
    go_ret
    exact ⟨rfl, app_end H.out D3.out G3.out B3.out T3.out AP3.out K5.out O6.out H6.out B6.out G6.out HN.out hs⟩
end Go.Proofs.YtenhncohhikllaaDoor
