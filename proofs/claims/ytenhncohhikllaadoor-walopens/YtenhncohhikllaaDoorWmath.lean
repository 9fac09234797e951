/-
  What a log is, in plain mathematics: rows of a round on a disk, the state in front of them, and what is read of both.
-/
import Derived.Test.YtenhncohhikllaaDoorKmath
namespace Go.Proofs.YtenhncohhikllaaDoor
namespace Wg
/-- a row's text, ahead of its sealing -/
def row (r : Nat) (s : List UInt8) : List UInt8 := Vn.vput r ++ s
def rows (r : Nat) (l : List (List UInt8)) : List (List UInt8) := l.map (row r)
/-- all rows, as they stand on the disk -/
def text (r : Nat) (l : List (List UInt8)) : List UInt8 := Ck.cat (rows r l)
/-- what file 0 tells: the round, the state, what is wrong -/
def head (s : List UInt8) : Nat × List UInt8 × Nat :=
  if s = [] then (0, [], 0) else if (Ck.open_ s 0).2.2 ≠ 0 then (0, [], (Ck.open_ s 0).2.2) else if (Ck.open_ s 0).2.1 < s.length then (0, [], 4) else
  if (vget (Ck.open_ s 0).1 0).2.2 ≠ 0 then (0, [], (vget (Ck.open_ s 0).1 0).2.2) else if 1099511627776 < (vget (Ck.open_ s 0).1 0).1 then (0, [], 4) else
  ((vget (Ck.open_ s 0).1 0).1, (Ck.open_ s 0).1.drop (vget (Ck.open_ s 0).1 0).2.1, 0)
/-- of texts those of a round, up to the first one that does not begin with a number -/
def pick (round : Nat) : List (List UInt8) → List (List UInt8)
  | [] => []
  | x :: xs => if (vget x 0).2.2 ≠ 0 then [] else if (vget x 0).1 = round then x.drop (vget x 0).2.1 :: pick round xs else pick round xs
def recs (s : List UInt8) (round : Nat) : List (List UInt8) := pick round (Ck.all_ s).1

theorem vget_row (r : Nat) (s : List UInt8) (h : r < 18446744073709551616) : vget (row r s) 0 = (r, Vn.vsz r, 0) := by
  have := vget_put [] s r h
  simpa [row] using this
theorem drop_row (r : Nat) (s : List UInt8) : (row r s).drop (Vn.vsz r) = s := by
  unfold row
  rw [← Vn.vput_length, List.drop_left]
theorem row_length (r : Nat) (s : List UInt8) : (row r s).length = Vn.vsz r + s.length := by rw [row, List.length_append, Vn.vput_length]
theorem row_small (r : Nat) (s : List UInt8) (h : s.length ≤ 65000) : (row r s).length ≤ 65536 := by
  rw [row_length]
  have : Vn.vsz r ≤ 9 := by unfold Vn.vsz; (repeat' split) <;> omega
  omega
theorem rows_small (r : Nat) (l : List (List UInt8)) (h : ∀ s ∈ l, s.length ≤ 65000) : ∀ x ∈ rows r l, x.length ≤ 65536 := fun x hx => by
  obtain ⟨s, hs, rfl⟩ := List.mem_map.1 hx
  exact row_small r s (h s hs)
theorem seal_ne (l : List UInt8) : Ck.seal_ l ≠ [] := fun h => by
  have := congrArg List.length h
  rw [Ck.seal_length, List.length_nil] at this
  omega
theorem head_nil : head [] = (0, [], 0) := rfl
/-- what is checked in is read -/
theorem head_row (r : Nat) (s : List UInt8) (hr : r ≤ 1099511627776) (hs : s.length ≤ 65000) : head (Ck.seal_ (row r s)) = (r, s, 0) := by
  have ho := Ck.open_seal0 (row r s) [] (row_small r s hs)
  rw [List.append_nil] at ho
  unfold head
  rw [if_neg (seal_ne _), ho]
  simp only
  rw [if_neg (by simp), if_neg (by omega), vget_row r s (by omega)]
  simp only
  rw [if_neg (by simp), if_neg (by omega), drop_row]
theorem pick_rows (r : Nat) (l xs : List (List UInt8)) (h : r < 18446744073709551616) : pick r (rows r l ++ xs) = l ++ pick r xs := by
  induction l with
  | nil => rfl
  | cons s l ih =>
    show pick r (row r s :: (rows r l ++ xs)) = _
    rw [pick, vget_row r s h, if_neg (by simp), if_pos rfl, drop_row, ih]
    rfl
theorem pick_old (r q : Nat) (l xs : List (List UInt8)) (h : q < 18446744073709551616) (hq : q ≠ r) : pick r (rows q l ++ xs) = pick r xs := by
  induction l with
  | nil => rfl
  | cons s l ih =>
    show pick r (row q s :: (rows q l ++ xs)) = _
    rw [pick, vget_row q s h, if_neg (by simp), if_neg hq, ih]
theorem recs_text (r : Nat) (l : List (List UInt8)) (h : r < 18446744073709551616) (hl : ∀ s ∈ l, s.length ≤ 65000) : recs (text r l) r = l := by
  unfold recs text
  rw [Ck.all_cat _ (rows_small r l hl)]
  have := pick_rows r l [] h
  simpa [pick] using this
theorem recs_old (r q : Nat) (l : List (List UInt8)) (h : q < 18446744073709551616) (hq : q ≠ r) (hl : ∀ s ∈ l, s.length ≤ 65000) : recs (text q l) r = [] := by
  unfold recs text
  rw [Ck.all_cat _ (rows_small q l hl)]
  have := pick_old r q l [] h hq
  simpa [pick] using this
/-- rows that are cut off anywhere: the whole ones -/
theorem recs_take (r : Nat) (l : List (List UInt8)) (k : Nat) (h : r < 18446744073709551616) (hl : ∀ s ∈ l, s.length ≤ 65000) : recs ((text r l).take k) r = l.take (Ck.whole (rows r l) k) := by
  unfold recs text
  rw [Ck.all_take _ _ (rows_small r l hl)]
  simp only
  have e : (rows r l).take (Ck.whole (rows r l) k) = rows r (l.take (Ck.whole (rows r l) k)) := by unfold rows; rw [List.map_take]
  rw [e]
  have := pick_rows r (l.take (Ck.whole (rows r l) k)) [] h
  simpa [pick] using this
theorem recs_take_old (r q : Nat) (l : List (List UInt8)) (k : Nat) (h : q < 18446744073709551616) (hq : q ≠ r) (hl : ∀ s ∈ l, s.length ≤ 65000) : recs ((text q l).take k) r = [] := by
  unfold recs text
  rw [Ck.all_take _ _ (rows_small q l hl)]
  simp only
  have e : (rows q l).take (Ck.whole (rows q l) k) = rows q (l.take (Ck.whole (rows q l) k)) := by unfold rows; rw [List.map_take]
  rw [e]
  have := pick_old r q (l.take (Ck.whole (rows q l) k)) [] h hq
  simpa [pick] using this
theorem text_nil (r : Nat) : text r [] = [] := rfl
theorem text_append (r : Nat) (a b : List (List UInt8)) : text r (a ++ b) = text r a ++ text r b := by
  unfold text rows
  rw [List.map_append, Ck.cat_append]
theorem text_snoc (r : Nat) (l : List (List UInt8)) (s : List UInt8) : text r (l ++ [s]) = text r l ++ Ck.seal_ (row r s) := by
  rw [text_append]
  congr 1
  simp [text, rows, Ck.cat]
theorem recs_nil (r : Nat) : recs [] r = [] := by
  unfold recs
  rw [show ([] : List UInt8) = Ck.cat [] from rfl, Ck.all_cat [] (by simp)]
  rfl
/-- what is read of cut off rows, put, is no more than what stood there -/
theorem text_take (r : Nat) (l : List (List UInt8)) (k : Nat) : (text r (l.take k)).length ≤ (text r l).length := by
  have := text_append r (l.take k) (l.drop k)
  rw [List.take_append_drop] at this
  rw [this, List.length_append]
  omega
end Wg
end Go.Proofs.YtenhncohhikllaaDoor
