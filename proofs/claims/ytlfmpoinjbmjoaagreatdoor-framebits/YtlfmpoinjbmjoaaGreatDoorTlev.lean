/-
  The iterator over a text's levels.
-/
import Derived.Test.YtlfmpoinjbmjoaaGreatDoorTmath
import Derived.Lib.Bytealg
import Derived.Laws.StandIn
import Derived.Laws.Strings3
import Derived.Lib.Walk
import Derived.Laws.RangeAny
import Derived.RangeFuncNested
import Derived.RangeFuncBound
import Derived.RangeFuncCalls
import Derived.RangeFuncLeaves
import Derived.RangeFuncBox
import Derived.Shelf.Abstract
import Derived.Shelf.RegionOpen
import Derived.WalkKit
import Derived.OwnWalkIn
import Derived.TacticsInMore
import Derived.LoopNIn
import Derived.LoopIn
import Derived.Maps.AppendAt
namespace Go.Proofs.YtlfmpoinjbmjoaaGreatDoor
open Go.ChangeShapes Go.WideShapes Go.ChangeAt Go.RowKit

namespace Tp
def cut : L → L × L × Bool
  | [] => ([], [], false)
  | c :: l => if c = 47 then ([], l, true) else (c :: (cut l).1, (cut l).2.1, (cut l).2.2)
theorem lev_by_cut : ∀ l, lev l = if (cut l).2.2 then (cut l).1 :: lev (cut l).2.1 else [(cut l).1]
  | [] => rfl
  | c :: l => by
    by_cases h : c = 47
    · subst h; rw [lev_slash, cut, if_pos rfl, if_pos rfl]
    · obtain ⟨x, xs, e1, e2⟩ := lev_head c l h
      rw [lev_by_cut l] at e1
      rw [cut, if_neg h, e2]
      simp only
      split at e1
      · rename_i hm; rw [if_pos hm]; cases e1; rfl
      · rename_i hm; rw [if_neg hm]; cases e1; rfl
theorem cut_left : ∀ l, (cut l).2.2 = true → (cut l).2.1.length < l.length
  | [], h => by simp [cut] at h
  | c :: l, h => by
    rw [cut] at h ⊢
    by_cases hc : c = 47
    · rw [if_pos hc]; simp
    · rw [if_neg hc] at h ⊢; have := cut_left l h; simp only [List.length_cons]; omega
theorem cut_none_left : ∀ l, (cut l).2.2 = false → (cut l).2.1 = []
  | [], _ => rfl
  | c :: l, h => by
    rw [cut] at h ⊢
    by_cases hc : c = 47
    · rw [if_pos hc] at h; cases h
    · rw [if_neg hc] at h ⊢; exact cut_none_left l h
theorem cut_le : ∀ l, (cut l).1.length ≤ l.length ∧ (cut l).2.1.length ≤ l.length
  | [] => by simp [cut]
  | c :: l => by
    rw [cut]
    by_cases hc : c = 47
    · rw [if_pos hc]; simp
    · rw [if_neg hc]; have := cut_le l; simp only [List.length_cons]; omega
theorem cut_index : ∀ l : L, (Lib.indexByte l 47 = -1 ∧ cut l = (l, [], false)) ∨ (∃ k : Nat, Lib.indexByte l 47 = k ∧ k < l.length ∧ cut l = (l.take k, l.drop (k + 1), true))
  | [] => .inl ⟨rfl, rfl⟩
  | c :: l => by
    rw [Lib.indexByte, cut]
    by_cases h : c = 47
    · subst h
      exact .inr ⟨0, by simp, by simp, by simp⟩
    · rw [if_neg h, if_neg (by simpa using h)]
      rcases cut_index l with ⟨h1, h2⟩ | ⟨k, h1, h2, h3⟩
      · rw [h1, h2]; exact .inl ⟨by simp, rfl⟩
      · rw [h1, h3]
        refine .inr ⟨k + 1, ?_, by simp; omega, rfl⟩
        rw [if_neg (by simp)]
        rfl
end Tp

theorem str_size (s : ByteArray) : s.data.toList.length = s.size := by simp
/-- a text by name -/
theorem name_list (l : List UInt8) : ∃ p : ByteArray, str l = .string p ∧ p.size = l.length ∧ p.data.toList = l := ⟨⟨l.toArray⟩, rfl, rfl, rfl⟩
theorem extract_list (s : ByteArray) (a b : Nat) : (s.extract a b).data.toList = (s.data.toList.drop a).take (b - a) := by
  simp [ByteArray.data_extract, List.extract_eq_take_drop]

theorem e48 (s : ByteArray) (w : World) : (callFunc 160 #[.string s, .int .u8 47]).run Tryz.prog w = .ok (.value (.int .i64 (Lib.indexByte s.data.toList 47))) w := by
  rw [run_callFunc_indexByte Tryz.func160 (by kernel_rfl) (by kernel_rfl) (by kernel_rfl) (by kernel_rfl), Lib.run_indexByteString]
  rfl

theorem indexByte_any (s : ByteArray) (w : World) :
    Calls Tryz.prog 156 #[.string s, .int .u8 47] w fun e w' => e = .returned (.int .i64 (Lib.indexByte s.data.toList 47)) ∧ w' = w := by
  have hx := e48 s
  go_enter Tryz.func156, Tryz.ntmps156
  go_wp2
  go_ret
  exact ⟨rfl, rfl⟩

set_option maxRecDepth 100000 in
theorem index_any (s : ByteArray) (w : World) :
    Calls Tryz.prog 155 #[.string s, .string ⟨#[47]⟩] w fun e w' => e = .returned (.int .i64 (Lib.indexByte s.data.toList 47)) ∧ w' = w := by
  by_cases h : s.data.toList = [47]
  · have e1 : ([47] == s.toList) = true := by rw [toList_eq, h]; rfl
    have e2 : Lib.indexByte s.data.toList 47 = 0 := by rw [h]; rfl
    rw [e2]
    clear e2 h
    go_enter Tryz.func155, Tryz.ntmps155
    go_wp2_with fail
    go_ret
    exact ⟨rfl, rfl⟩
  · have e1 : ([47] == s.toList) = false := by rw [beq_eq_false_iff_ne, toList_eq]; exact fun e => h e.symm
    clear h
    go_enter Tryz.func155, Tryz.ntmps155
    go_wp2_with fail
    refine (indexByte_any s _).mono ?_
    rintro e w' ⟨rfl, rfl⟩
    go_wp2_with fail
    go_ret
    exact ⟨rfl, rfl⟩

set_option maxHeartbeats 400000 in
theorem cut_inner (s : ByteArray) (w : World) (hs : s.size ≤ 281474976710656) :
    Calls Tryz.prog 154 #[.string s, .string ⟨#[47]⟩] w fun e w' => ∃ a b m, e = .returned (.tuple #[.string a, .string b, .bool m]) ∧ Tp.cut s.data.toList = (a.data.toList, b.data.toList, m) ∧ ∃ n, w' = w.drewN n := by
  rcases Tp.cut_index s.data.toList with ⟨h1, h2⟩ | ⟨k, h1, h2, h3⟩
  · have H2 := Lib.hid h2
    have H1 := Lib.hid h1
    clear h1 h2
    go_enter Tryz.func154, Tryz.ntmps154
    go_wp2_with fail
    refine (index_any s _).mono ?_
    rintro e w' ⟨rfl, rfl⟩
    rw [H1.out]
    go_wp2
    go_ret3
    exact ⟨s, ⟨#[]⟩, false, rfl, H2.out, 0, rfl⟩
  · rw [str_size] at h2
    have H3 := Lib.hid h3
    have H1 := Lib.hid h1
    clear h1 h3
    go_enter Tryz.func154, Tryz.ntmps154
    go_wp2_with fail
    refine (index_any s _).mono ?_
    rintro e w' ⟨rfl, rfl⟩
    rw [H1.out]
    go_wp2
    go_quiet (fail)
    go_wp2
    go_ret3
    refine ⟨s.extract 0 k, s.extract (k + 1) s.size, true, rfl, ?_, _, rfl⟩
    rw [H3.out, extract_list, extract_list, List.drop_zero, Nat.sub_zero, List.take_of_length_le (l := List.drop (k + 1) s.data.toList) (by rw [List.length_drop, str_size]; exact Nat.le_refl _)]

theorem scut_any (s : ByteArray) (w : World) (hs : s.size ≤ 281474976710656) :
    Calls Tryz.prog 152 #[.string s, .string ⟨#[47]⟩] w fun e w' => ∃ a b m, e = .returned (.tuple #[.string a, .string b, .bool m]) ∧ Tp.cut s.data.toList = (a.data.toList, b.data.toList, m) ∧ ∃ n, w' = w.drewN n := by
  go_enter Tryz.func152, Tryz.ntmps152
  go_wp2_with fail
  refine (cut_inner s _ hs).mono ?_
  rintro e w' ⟨a, b, m, rfl, h, hw⟩
  go_wp2
  go_ret3
  exact ⟨a, b, m, rfl, h, hw⟩
end Go.Proofs.YtlfmpoinjbmjoaaGreatDoor

namespace Go.Proofs.YtlfmpoinjbmjoaaGreatDoor
open Go.ChangeShapes Go.WideShapes Go.ChangeAt Go.RowKit

namespace Tp
/-- a rune of a name -/
def nr (r : Int) : Bool := (decide (97 ≤ r) && decide (r ≤ 122)) || (decide (48 ≤ r) && decide (r ≤ 57)) || (r == 45) || (r == 95)
theorem nr_byte (c : UInt8) : nr (c.toNat : Int) = nb c := by
  have e1 : (decide ((97 : Int) ≤ c.toNat)) = decide (97 ≤ c.toNat) := by simp; omega
  have e2 : (decide ((c.toNat : Int) ≤ 122)) = decide (c.toNat ≤ 122) := by simp; omega
  have e3 : (decide ((48 : Int) ≤ c.toNat)) = decide (48 ≤ c.toNat) := by simp; omega
  have e4 : (decide ((c.toNat : Int) ≤ 57)) = decide (c.toNat ≤ 57) := by simp; omega
  have e5 : ((c.toNat : Int) == 45) = decide (c.toNat = 45) := by rw [Bool.eq_iff_iff]; simp; omega
  have e6 : ((c.toNat : Int) == 95) = decide (c.toNat = 95) := by rw [Bool.eq_iff_iff]; simp; omega
  rw [nr, nb, e1, e2, e3, e4, e5, e6]
theorem nr_high (r : Int) (h : 128 ≤ r) : nr r = false := by
  have e1 : decide (r ≤ 122) = false := by simp; omega
  have e2 : decide (r ≤ 57) = false := by simp; omega
  have e3 : (r == 45) = false := by simp; omega
  have e4 : (r == 95) = false := by simp; omega
  rw [nr, e1, e2, e3, e4]; simp
theorem nb_high (c : UInt8) (h : 128 ≤ c.toNat) : nb c = false := by rw [← nr_byte, nr_high _ (by omega)]
end Tp

theorem inName_any (r : Int) (w : World) :
    Calls Tryz.prog 153 #[.int .i32 r] w fun e w' => e = .returned (.bool (Tp.nr r)) ∧ w' = w := by
  by_cases h1 : 97 ≤ r <;> by_cases h2 : r ≤ 122 <;> by_cases h3 : 48 ≤ r <;> by_cases h4 : r ≤ 57 <;> by_cases h5 : (r == 45) = true <;> by_cases h6 : (r == 95) = true <;> first
    | (exfalso; simp at h5 h6; omega)
    | (have Hk : Hid (Tp.nr r = ((decide (97 ≤ r) && decide (r ≤ 122)) || (decide (48 ≤ r) && decide (r ≤ 57)) || (r == 45) || (r == 95))) := rfl
       go_enter Tryz.func153, Tryz.ntmps153
       go_wp2
       go_ret
       refine ⟨?_, rfl⟩
       rw [Hk.out]
       simp [h1, h2, h3, h4, h5, h6])

/-- the rune at a byte is of a name just if the byte is -/
theorem rune_nb (s : ByteArray) (k : Nat) (h : k < s.size) : Tp.nr ((Utf8.decode s k).1 : Int) = Tp.nb s[k] ∧ (Tp.nb s[k] = true → (Utf8.decode s k).2 = 1) := by
  by_cases ha : (s[k]'h).toNat < 128
  · rw [decode_ascii s k h ha]
    exact ⟨Tp.nr_byte _, fun _ => rfl⟩
  · have hd := (decode_high s k h (by omega)).1
    rw [Tp.nb_high s[k] (by omega), Tp.nr_high _ (by omega)]
    exact ⟨rfl, fun h => by cases h⟩
theorem byte_at (s : ByteArray) (k : Nat) (h : k < s.size) : s.data.toList[k]? = some s[k] := by
  rw [List.getElem?_eq_getElem (by rw [str_size]; exact h)]
  rfl
theorem all_nb_stop (s : ByteArray) (k : Nat) (h : k < s.size) (hn : Tp.nb s[k] = false) : s.data.toList.all Tp.nb = false := by
  rw [List.all_eq_false]
  exact ⟨s[k], List.mem_of_getElem? (byte_at s k h), by rw [hn]; simp⟩
theorem all_nb_end (s : ByteArray) (h : ∀ j (hj : j < s.size), Tp.nb s[j] = true) : s.data.toList.all Tp.nb = true := by
  rw [List.all_eq_true]
  intro x hx
  obtain ⟨j, hj⟩ := List.getElem?_of_mem hx
  have hlt : j < s.size := by
    rcases Nat.lt_or_ge j s.size with h | h
    · exact h
    · rw [List.getElem?_eq_none (by rw [str_size]; exact h)] at hj; cases hj
  rw [byte_at s j hlt] at hj
  cases hj
  exact h j hlt
theorem iter_kept (w : World) (s : ByteArray) (k : Nat) : Kept w (w.iter s k) := Kept.alloc (Kept.refl w) _

theorem name_by (s : ByteArray) (h1 : 1 ≤ s.size) (h2 : s.size ≤ 16) : Tp.name s.data.toList = s.data.toList.all Tp.nb := by
  rw [Tp.name, str_size, decide_eq_true h1, decide_eq_true h2]; simp
theorem name_short (s : ByteArray) (h : ¬ 1 ≤ s.size) : Tp.name s.data.toList = false := by
  rw [Tp.name, str_size, decide_eq_false h]; simp
theorem name_long (s : ByteArray) (h : ¬ s.size ≤ 16) : Tp.name s.data.toList = false := by
  rw [Tp.name, str_size, decide_eq_false h]; simp

set_option maxHeartbeats 400000 in
theorem isName_any (s : ByteArray) (w : World) :
    Calls Tryz.prog 150 #[.string s] w fun e w' => e = .returned (.bool (Tp.name s.data.toList)) ∧ Kept w w' := by
  by_cases h1 : 1 ≤ s.size
  · by_cases h2 : s.size ≤ 16
    · rw [name_by s h1 h2]
      go_enter Tryz.func150, Tryz.ntmps150
      go_wp2
      go_loopw [] (fun wr => ∃ k, k ≤ s.size ∧ wr = w.iter s k ∧ ∀ j (hj : j < s.size), j < k → Tp.nb s[j] = true) (fun wr => s.size - wr.iterPos w.heap.size)
      case atStart => exact ⟨0, Nat.zero_le _, rfl, fun j _ h => absurd h (Nat.not_lt_zero _)⟩
      case round =>
        obtain ⟨k, hk, rfl, hn⟩ := hrel
        have Hn := Lib.hid hn
        clear hn
        by_cases hp : k < s.size
        · have hnx : ∀ ty, (Instr.next (.pointer (some ⟨w.heap.size, 0, none⟩)) true ty).run Tryz.prog (w.iter s k) = _ := fun ty => run_next_any w s k ty hp
          obtain ⟨hr, hr1⟩ := rune_nb s k hp
          have Hr := Lib.hid hr
          have Hr1 := Lib.hid hr1
          clear hr hr1
          go_wp2_with fail
          refine (inName_any _ _).mono ?_
          rintro e w' ⟨rfl, rfl⟩
          rw [Hr.out]
          cases hb : Tp.nb s[k] with
          | false =>
            have Ha := Lib.hid (all_nb_stop s k hp hb)
            clear hb
            go_wp2
            go_ret
            exact ⟨by rw [Ha.out]; rfl, iter_kept _ _ _⟩
          | true =>
            have hd := Hr1.out hb
            have Hb := Lib.hid hb
            clear hb
            rw [hd]
            clear hd
            go_wp2
            go_roundw
            case rel =>
              refine ⟨k + 1, hp, rfl, fun j hj hjk => ?_⟩
              by_cases e : j = k
              · subst e; exact Hb.out
              · exact Hn.out j hj (by omega)
            case measure => simp; omega
        · have hnx : ∀ ty, (Instr.next (.pointer (some ⟨w.heap.size, 0, none⟩)) true ty).run Tryz.prog (w.iter s k) = _ := fun ty => run_next_end w s k ty hp
          have Ha := Lib.hid (all_nb_end s fun j hj => Hn.out j hj (by omega))
          go_wp2
          go_ret
          exact ⟨by rw [Ha.out]; rfl, iter_kept _ _ _⟩
    · rw [name_long s h2]
      go_enter Tryz.func150, Tryz.ntmps150
      go_wp2
      go_ret
      exact ⟨rfl, Kept.refl _⟩
  · rw [name_short s h1]
    go_enter Tryz.func150, Tryz.ntmps150
    go_wp2
    go_ret
    exact ⟨rfl, Kept.refl _⟩
end Go.Proofs.YtlfmpoinjbmjoaaGreatDoor

namespace Go.Proofs.YtlfmpoinjbmjoaaGreatDoor
open Go.ChangeShapes Go.WideShapes Go.ChangeAt Go.RowKit Go.Shelf

attribute [local go_sem] Oper.semAt_some

/-- a text of a size that a machine has -/
abbrev Txt := { x : ByteArray // x.size ≤ 281474976710656 }
def txts (xs : List Txt) : List (List UInt8) := xs.map fun x => x.1.data.toList
theorem txts_snoc (pre : List Txt) (x : Txt) : txts (pre ++ [x]) = txts pre ++ [x.1.data.toList] := by simp [txts]
theorem grown_kept {w w' : World} (h : Kept w w') : w.grownBy w' none := ⟨h.os, h.tape, h.output, h.size, fun k hk _ => h.block k hk⟩
theorem kept_drewN {a b : World} (h : Kept a b) (n : Nat) : Kept a (b.drewN n) := below_drewN h _
theorem abides_kept {β : Type} {B : Nat} {J : β → World → Prop} (hJ : AbidesFrom B J) {s : β} {W W' : World} (h : J s W) (k : Kept W W') : J s W' := hJ s W W' none h (grown_kept k) (fun r e => by cases e)

set_option maxHeartbeats 1000000 in
theorem levels_in (n : Nat) (s : ByteArray) (w : World) :
    CallsIn Fence.wide n Tryz.prog 149 #[.string s] w fun e w' => e = .returned (.func (.func 151) #[] #[.pointer (some ⟨w.heap.size, 0, none⟩)]) ∧ w' = w.alloc (.cells #[.string s] 9) := by
  refine callsIn_of_wp Tryz.func149 rfl trivial ?_ rfl
  simp only [Tryz.ntmps149, List.size_toArray, List.length_cons, List.length_nil, Nat.reduceAdd, Nat.reduceSub, Array.replicate_succ, Array.replicate_zero, List.push_toArray, List.append_toArray, List.nil_append, List.cons_append]
  gi_wp2
  go_ret
  exact ⟨rfl, rfl⟩

/-- how far the levels have come: what is left, and whether there is more -/
def LevTo (s : List UInt8) (pre : List (List UInt8)) (left : List UInt8) (more : Bool) : Prop :=
  left.length ≤ s.length ∧ pre.length + (if more then left.length + 1 else 0) ≤ s.length + 1 ∧ Tp.lev s = pre ++ (if more then Tp.lev left else [])
/-- how much is left, for the loop's measure -/
def leftOf : Value → Value → Nat
  | .string p, .bool true => p.size + 1
  | _, _ => 0
theorem levTo_start (s : List UInt8) : LevTo s [] s true := ⟨Nat.le_refl _, by simp, by simp⟩
theorem levTo_next {s left : List UInt8} {pre : List (List UInt8)} (h : LevTo s pre left true) : LevTo s (pre ++ [(Tp.cut left).1]) (Tp.cut left).2.1 (Tp.cut left).2.2 := by
  obtain ⟨h1, h2, h3⟩ := h
  simp only [if_true] at h2 h3
  refine ⟨Nat.le_trans (Tp.cut_le left).2 h1, ?_, ?_⟩
  · cases hm : (Tp.cut left).2.2 with
    | true => have := Tp.cut_left left hm; simp; omega
    | false => simp; omega
  · rw [h3, Tp.lev_by_cut left]
    split <;> simp
theorem levTo_end {s left : List UInt8} {pre : List (List UInt8)} (h : LevTo s pre left false) : pre = Tp.lev s := by
  have := h.2.2
  simp at this
  exact this.symm
theorem levTo_pre {s left : List UInt8} {pre : List (List UInt8)} {m : Bool} (h : LevTo s pre left m) : pre <+: Tp.lev s := ⟨_, h.2.2.symm⟩

set_option maxRecDepth 100000 in
set_option maxHeartbeats 1000000 in
theorem levels1_in (n : Nat) (hn : 1 ≤ n) (l B : Nat) (s : ByteArray) (hs : s.size ≤ 281474976710656) (J Jx : List Txt → World → Prop) (W : World) (hJ : AbidesFrom W.heap.size J)
    (hY : ∀ pre x W1, J pre W1 → pre.length < s.size + 1 → YieldAt Fence.wide (n - 1) Tryz.prog l #[.string x.1] W1 fun e W' =>
      (e = .returned (.bool true) ∧ J (pre ++ [x]) W' ∧ True) ∨ (e = .returned (.bool false) ∧ Jx (pre ++ [x]) W'))
    (hB : W.cell? ⟨B, 0, none⟩ = some (.string s)) (h0 : J [] W) :
    CallsIn Fence.wide n Tryz.prog 151 #[.func (.yield l) #[] #[], .pointer (some ⟨B, 0, none⟩)] W fun e W' => (∃ v, e = .returned v) ∧
      ((∃ xs, txts xs = Tp.lev s.data.toList ∧ J xs W') ∨ (∃ pre, txts pre <+: Tp.lev s.data.toList ∧ Jx pre W')) := by
  refine callsIn_of_wp Tryz.func151 rfl trivial ?_ rfl
  simp only [Tryz.ntmps151, List.size_toArray, List.length_cons, List.length_nil, Nat.reduceAdd, Nat.reduceSub, Array.replicate_succ, Array.replicate_zero, List.push_toArray, List.append_toArray, List.nil_append, List.cons_append]
  have hmx : Tryz.prog.follows .mixedOrders = true := by kernel_rfl
  gi_wp2
  gi_region_o
  clear hmx
  gi_wp2
  gi_loopw [4, 5] (fun left more wr => ∃ (pre : List Txt) (p : ByteArray) (m : Bool), left = .string p ∧ more = .bool m ∧ LevTo s.data.toList (txts pre) p.data.toList m ∧ J pre wr) (fun left more _ => leftOf left more)
  case atStart => exact ⟨[], s, true, rfl, rfl, levTo_start _, abides_kept hJ h0 (kept_drewN (Kept.refl W) 1)⟩
  case round =>
    obtain ⟨pre, p, m, rfl, rfl, hto, hJs⟩ := hrel
    cases m with
    | false =>
      gi_wp2
      go_end0
      exact ⟨⟨_, rfl⟩, .inl ⟨pre, levTo_end hto, hJs⟩⟩
    | true =>
      have hp : p.size ≤ s.size := by have := hto.1; rw [str_size, str_size] at this; exact this
      have hnx := levTo_next hto
      have hlen : pre.length < s.size + 1 := by have := hto.2.1; rw [str_size, str_size] at this; simp [txts] at this; omega
      have Hto := Lib.hid hto
      clear hto
      gi_wp2_with fail
      refine ⟨trivial, ?_⟩
      refine (callsIn_wide.2 (scut_any p _ (by omega))).mono ?_
      rintro e w' ⟨a, b, m, rfl, hc, k, rfl⟩
      have la : a.size ≤ p.size := by have := (Tp.cut_le p.data.toList).1; rw [hc, str_size, str_size] at this; exact this
      have lb : m = true → b.size < p.size := by intro hm; have := Tp.cut_left p.data.toList (by rw [hc]; exact hm); rw [hc, str_size, str_size] at this; exact this
      rw [hc] at hnx
      simp only at hnx
      have Hnx := Lib.hid hnx
      have Hlb := Lib.hid lb
      clear hnx hc lb
      obtain ⟨fn, tmps, assign, body, hy, hR⟩ := hY pre ⟨a, by omega⟩ (wr.drewN k) (abides_kept hJ hJs (kept_drewN (Kept.refl wr) k)) hlen
      gi_wp2
      refine hR.mono ?_
      rintro e W3 (⟨rfl, hJ3, _⟩ | ⟨rfl, hJx3⟩)
      · gi_wp2
        go_roundw
        case rel => exact ⟨pre ++ [⟨a, by omega⟩], b, m, rfl, rfl, by rw [txts_snoc]; exact Hnx.out, hJ3⟩
        case measure =>
          cases m with
          | false => simp [leftOf]
          | true => have := Hlb.out rfl; simp [leftOf]; omega
      · gi_wp2
        refine bodyPost_ret (results_none rfl _ _ _) rfl ?_
        exact ⟨⟨_, rfl⟩, .inr ⟨pre ++ [⟨a, by omega⟩], by rw [txts_snoc]; exact levTo_pre Hnx.out, hJx3⟩⟩

/-- a text's levels, by iterator -/
theorem levels_stops (n : Nat) (hn : 1 ≤ n) (B : Nat) (s : ByteArray) (hs : s.size ≤ 281474976710656) (w : World) (hB : B < w.heap.size) (hc : w.cell? ⟨B, 0, none⟩ = some (.string s)) :
    SeqStopsK Fence.wide n Tryz.prog 151 #[.pointer (some ⟨B, 0, none⟩)] (fun x : Txt => #[Value.string x.1]) (fun _ _ => True) (fun ys => txts ys = Tp.lev s.data.toList) (fun pre => txts pre <+: Tp.lev s.data.toList) (s.size + 1) w := fun l J Jx W hW hJ _ hY h0 =>
  levels1_in n hn l B s hs J Jx W hJ hY ((hW.cell (p := ⟨B, 0, none⟩) hB).trans hc) h0
end Go.Proofs.YtlfmpoinjbmjoaaGreatDoor
