/-
  The iterator over a text's levels.
-/
import Derived.Test.YtbenjenifklejaaDoorTname
import Derived.RangeFuncNested
import Derived.RangeFuncBound
import Derived.RangeFuncCalls
import Derived.RangeFuncLeaves
import Derived.RangeFuncBox
import Derived.Shelf.Abstract
import Derived.Shelf.RegionOpen
import Derived.WalkKit
import Derived.OwnWalkIn
import Derived.TacticsInMore
import Derived.LoopNIn
import Derived.LoopIn
import Derived.Maps.AppendAt
namespace Go.Proofs.YtbenjenifklejaaDoor
open Go.ChangeShapes Go.WideShapes Go.ChangeAt Go.RowKit Go.Shelf

attribute [local go_sem] Oper.semAt_some

/-- a text of a size that a machine has -/
abbrev Txt := { x : ByteArray // x.size ≤ 281474976710656 }
def txts (xs : List Txt) : List (List UInt8) := xs.map fun x => x.1.data.toList
theorem txts_snoc (pre : List Txt) (x : Txt) : txts (pre ++ [x]) = txts pre ++ [x.1.data.toList] := by simp [txts]
theorem grown_kept {w w' : World} (h : Kept w w') : w.grownBy w' none := ⟨h.os, h.tape, h.output, h.size, fun k hk _ => h.block k hk⟩
theorem kept_drewN {a b : World} (h : Kept a b) (n : Nat) : Kept a (b.drewN n) := below_drewN h _
theorem abides_kept {β : Type} {B : Nat} {J : β → World → Prop} (hJ : AbidesFrom B J) {s : β} {W W' : World} (h : J s W) (k : Kept W W') : J s W' := hJ s W W' none h (grown_kept k) (fun r e => by cases e)

set_option maxHeartbeats 1000000 in
theorem levels_in (n : Nat) (s : ByteArray) (w : World) :
    CallsIn Fence.wide n Tryd.prog 50 #[.string s] w fun e w' => e = .returned (.func (.func 66) #[] #[.pointer (some ⟨w.heap.size, 0, none⟩)]) ∧ w' = w.alloc (.cells #[.string s] 9) := by
  refine callsIn_of_wp Tryd.func50 rfl trivial ?_ rfl
  simp only [Tryd.ntmps50, List.size_toArray, List.length_cons, List.length_nil, Nat.reduceAdd, Nat.reduceSub, Array.replicate_succ, Array.replicate_zero, List.push_toArray, List.append_toArray, List.nil_append, List.cons_append]
  gi_wp2
  go_ret
  exact ⟨rfl, rfl⟩

/-- how far the levels have come: what is left, and whether there is more -/
def LevTo (s : List UInt8) (pre : List (List UInt8)) (left : List UInt8) (more : Bool) : Prop :=
  left.length ≤ s.length ∧ pre.length + (if more then left.length + 1 else 0) ≤ s.length + 1 ∧ Tp.lev s = pre ++ (if more then Tp.lev left else [])
/-- how much is left, for the loop's measure -/
def leftOf : Value → Value → Nat
  | .string p, .bool true => p.size + 1
  | _, _ => 0
theorem levTo_start (s : List UInt8) : LevTo s [] s true := ⟨Nat.le_refl _, by simp, by simp⟩
theorem levTo_next {s left : List UInt8} {pre : List (List UInt8)} (h : LevTo s pre left true) : LevTo s (pre ++ [(Tp.cut left).1]) (Tp.cut left).2.1 (Tp.cut left).2.2 := by
  obtain ⟨h1, h2, h3⟩ := h
  simp only [if_true] at h2 h3
  refine ⟨Nat.le_trans (Tp.cut_le left).2 h1, ?_, ?_⟩
  · cases hm : (Tp.cut left).2.2 with
    | true => have := Tp.cut_left left hm; simp; omega
    | false => simp; omega
  · rw [h3, Tp.lev_by_cut left]
    split <;> simp
theorem levTo_end {s left : List UInt8} {pre : List (List UInt8)} (h : LevTo s pre left false) : pre = Tp.lev s := by
  have := h.2.2
  simp at this
  exact this.symm
theorem levTo_pre {s left : List UInt8} {pre : List (List UInt8)} {m : Bool} (h : LevTo s pre left m) : pre <+: Tp.lev s := ⟨_, h.2.2.symm⟩

set_option maxRecDepth 100000 in
set_option maxHeartbeats 1000000 in
theorem levels1_in (n : Nat) (hn : 1 ≤ n) (l B : Nat) (s : ByteArray) (hs : s.size ≤ 281474976710656) (J Jx : List Txt → World → Prop) (W : World) (hJ : AbidesFrom W.heap.size J)
    (hY : ∀ pre x W1, J pre W1 → pre.length < s.size + 1 → YieldAt Fence.wide (n - 1) Tryd.prog l #[.string x.1] W1 fun e W' =>
      (e = .returned (.bool true) ∧ J (pre ++ [x]) W' ∧ True) ∨ (e = .returned (.bool false) ∧ Jx (pre ++ [x]) W'))
    (hB : W.cell? ⟨B, 0, none⟩ = some (.string s)) (h0 : J [] W) :
    CallsIn Fence.wide n Tryd.prog 66 #[.func (.yield l) #[] #[], .pointer (some ⟨B, 0, none⟩)] W fun e W' => (∃ v, e = .returned v) ∧
      ((∃ xs, txts xs = Tp.lev s.data.toList ∧ J xs W') ∨ (∃ pre, txts pre <+: Tp.lev s.data.toList ∧ Jx pre W')) := by
  refine callsIn_of_wp Tryd.func66 rfl trivial ?_ rfl
  simp only [Tryd.ntmps66, List.size_toArray, List.length_cons, List.length_nil, Nat.reduceAdd, Nat.reduceSub, Array.replicate_succ, Array.replicate_zero, List.push_toArray, List.append_toArray, List.nil_append, List.cons_append]
  have hmx : Tryd.prog.follows .mixedOrders = true := by kernel_rfl
  gi_wp2
  gi_region_o
  clear hmx
  gi_wp2
  gi_loopw [4, 5] (fun left more wr => ∃ (pre : List Txt) (p : ByteArray) (m : Bool), left = .string p ∧ more = .bool m ∧ LevTo s.data.toList (txts pre) p.data.toList m ∧ J pre wr) (fun left more _ => leftOf left more)
  case atStart => exact ⟨[], s, true, rfl, rfl, levTo_start _, abides_kept hJ h0 (kept_drewN (Kept.refl W) 1)⟩
  case round =>
    obtain ⟨pre, p, m, rfl, rfl, hto, hJs⟩ := hrel
    cases m with
    | false =>
      gi_wp2
      go_end0
      exact ⟨⟨_, rfl⟩, .inl ⟨pre, levTo_end hto, hJs⟩⟩
    | true =>
      have hp : p.size ≤ s.size := by have := hto.1; rw [str_size, str_size] at this; exact this
      have hnx := levTo_next hto
      have hlen : pre.length < s.size + 1 := by have := hto.2.1; rw [str_size, str_size] at this; simp [txts] at this; omega
      have Hto := Lib.hid hto
      clear hto
      gi_wp2_with fail
      refine ⟨trivial, ?_⟩
      refine (callsIn_wide.2 (scut_any p _ (by omega))).mono ?_
      rintro e w' ⟨a, b, m, rfl, hc, k, rfl⟩
      have la : a.size ≤ p.size := by have := (Tp.cut_le p.data.toList).1; rw [hc, str_size, str_size] at this; exact this
      have lb : m = true → b.size < p.size := by intro hm; have := Tp.cut_left p.data.toList (by rw [hc]; exact hm); rw [hc, str_size, str_size] at this; exact this
      rw [hc] at hnx
      simp only at hnx
      have Hnx := Lib.hid hnx
      have Hlb := Lib.hid lb
      clear hnx hc lb
      obtain ⟨fn, tmps, assign, body, hy, hR⟩ := hY pre ⟨a, by omega⟩ (wr.drewN k) (abides_kept hJ hJs (kept_drewN (Kept.refl wr) k)) hlen
      gi_wp2
      refine hR.mono ?_
      rintro e W3 (⟨rfl, hJ3, _⟩ | ⟨rfl, hJx3⟩)
      · gi_wp2
        go_roundw
        case rel => exact ⟨pre ++ [⟨a, by omega⟩], b, m, rfl, rfl, by rw [txts_snoc]; exact Hnx.out, hJ3⟩
        case measure =>
          cases m with
          | false => simp [leftOf]
          | true => have := Hlb.out rfl; simp [leftOf]; omega
      · gi_wp2
        refine bodyPost_ret (results_none rfl _ _ _) rfl ?_
        exact ⟨⟨_, rfl⟩, .inr ⟨pre ++ [⟨a, by omega⟩], by rw [txts_snoc]; exact levTo_pre Hnx.out, hJx3⟩⟩

/-- a text's levels, by iterator -/
theorem levels_stops (n : Nat) (hn : 1 ≤ n) (B : Nat) (s : ByteArray) (hs : s.size ≤ 281474976710656) (w : World) (hB : B < w.heap.size) (hc : w.cell? ⟨B, 0, none⟩ = some (.string s)) :
    SeqStopsK Fence.wide n Tryd.prog 66 #[.pointer (some ⟨B, 0, none⟩)] (fun x : Txt => #[Value.string x.1]) (fun _ _ => True) (fun ys => txts ys = Tp.lev s.data.toList) (fun pre => txts pre <+: Tp.lev s.data.toList) (s.size + 1) w := fun l J Jx W hW hJ _ hY h0 =>
  levels1_in n hn l B s hs J Jx W hJ hY ((hW.cell (p := ⟨B, 0, none⟩) hB).trans hc) h0
end Go.Proofs.YtbenjenifklejaaDoor
