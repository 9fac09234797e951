/-
  What a crash leaves of a log, in plain mathematics: one call, of whose writes the first units stayed.
-/
import Derived.Test.YtenhncohhikllaaDoorKmath
import Derived.Test.YtenhncohhikllaaDoorDmath
namespace Go.Proofs.YtenhncohhikllaaDoor
namespace Wg
/-- a row's text, ahead of its sealing -/
def row (r : Nat) (s : List UInt8) : List UInt8 := Vn.vput r ++ s
def rows (r : Nat) (l : List (List UInt8)) : List (List UInt8) := l.map (row r)
/-- all rows, as they stand on the disk -/
def text (r : Nat) (l : List (List UInt8)) : List UInt8 := Ck.cat (rows r l)
/-- what file 0 tells: the round, the state, what is wrong -/
def head (s : List UInt8) : Nat × List UInt8 × Nat :=
  if s = [] then (0, [], 0) else if (Ck.open_ s 0).2.2 ≠ 0 then (0, [], (Ck.open_ s 0).2.2) else if (Ck.open_ s 0).2.1 < s.length then (0, [], 4) else
  if (vget (Ck.open_ s 0).1 0).2.2 ≠ 0 then (0, [], (vget (Ck.open_ s 0).1 0).2.2) else if 1099511627776 < (vget (Ck.open_ s 0).1 0).1 then (0, [], 4) else
  ((vget (Ck.open_ s 0).1 0).1, (Ck.open_ s 0).1.drop (vget (Ck.open_ s 0).1 0).2.1, 0)
/-- of texts those of a round, up to the first one that does not begin with a number -/
def pick (round : Nat) : List (List UInt8) → List (List UInt8)
  | [] => []
  | x :: xs => if (vget x 0).2.2 ≠ 0 then [] else if (vget x 0).1 = round then x.drop (vget x 0).2.1 :: pick round xs else pick round xs
def recs (s : List UInt8) (round : Nat) : List (List UInt8) := pick round (Ck.all_ s).1

theorem vget_row (r : Nat) (s : List UInt8) (h : r < 18446744073709551616) : vget (row r s) 0 = (r, Vn.vsz r, 0) := by
  have := vget_put [] s r h
  simpa [row] using this
theorem drop_row (r : Nat) (s : List UInt8) : (row r s).drop (Vn.vsz r) = s := by
  unfold row
  rw [← Vn.vput_length, List.drop_left]
theorem row_length (r : Nat) (s : List UInt8) : (row r s).length = Vn.vsz r + s.length := by rw [row, List.length_append, Vn.vput_length]
theorem row_small (r : Nat) (s : List UInt8) (h : s.length ≤ 65000) : (row r s).length ≤ 65536 := by
  rw [row_length]
  have : Vn.vsz r ≤ 9 := by unfold Vn.vsz; (repeat' split) <;> omega
  omega
theorem rows_small (r : Nat) (l : List (List UInt8)) (h : ∀ s ∈ l, s.length ≤ 65000) : ∀ x ∈ rows r l, x.length ≤ 65536 := fun x hx => by
  obtain ⟨s, hs, rfl⟩ := List.mem_map.1 hx
  exact row_small r s (h s hs)
theorem seal_ne (l : List UInt8) : Ck.seal_ l ≠ [] := fun h => by
  have := congrArg List.length h
  rw [Ck.seal_length, List.length_nil] at this
  omega
theorem head_nil : head [] = (0, [], 0) := rfl
/-- what is checked in is read -/
theorem head_row (r : Nat) (s : List UInt8) (hr : r ≤ 1099511627776) (hs : s.length ≤ 65000) : head (Ck.seal_ (row r s)) = (r, s, 0) := by
  have ho := Ck.open_seal0 (row r s) [] (row_small r s hs)
  rw [List.append_nil] at ho
  unfold head
  rw [if_neg (seal_ne _), ho]
  simp only
  rw [if_neg (by simp), if_neg (by omega), vget_row r s (by omega)]
  simp only
  rw [if_neg (by simp), if_neg (by omega), drop_row]
theorem pick_rows (r : Nat) (l xs : List (List UInt8)) (h : r < 18446744073709551616) : pick r (rows r l ++ xs) = l ++ pick r xs := by
  induction l with
  | nil => rfl
  | cons s l ih =>
    show pick r (row r s :: (rows r l ++ xs)) = _
    rw [pick, vget_row r s h, if_neg (by simp), if_pos rfl, drop_row, ih]
    rfl
theorem pick_old (r q : Nat) (l xs : List (List UInt8)) (h : q < 18446744073709551616) (hq : q ≠ r) : pick r (rows q l ++ xs) = pick r xs := by
  induction l with
  | nil => rfl
  | cons s l ih =>
    show pick r (row q s :: (rows q l ++ xs)) = _
    rw [pick, vget_row q s h, if_neg (by simp), if_neg hq, ih]
theorem recs_text (r : Nat) (l : List (List UInt8)) (h : r < 18446744073709551616) (hl : ∀ s ∈ l, s.length ≤ 65000) : recs (text r l) r = l := by
  unfold recs text
  rw [Ck.all_cat _ (rows_small r l hl)]
  have := pick_rows r l [] h
  simpa [pick] using this
theorem recs_old (r q : Nat) (l : List (List UInt8)) (h : q < 18446744073709551616) (hq : q ≠ r) (hl : ∀ s ∈ l, s.length ≤ 65000) : recs (text q l) r = [] := by
  unfold recs text
  rw [Ck.all_cat _ (rows_small q l hl)]
  have := pick_old r q l [] h hq
  simpa [pick] using this
/-- rows that are cut off anywhere: the whole ones -/
theorem recs_take (r : Nat) (l : List (List UInt8)) (k : Nat) (h : r < 18446744073709551616) (hl : ∀ s ∈ l, s.length ≤ 65000) : recs ((text r l).take k) r = l.take (Ck.whole (rows r l) k) := by
  unfold recs text
  rw [Ck.all_take _ _ (rows_small r l hl)]
  simp only
  have e : (rows r l).take (Ck.whole (rows r l) k) = rows r (l.take (Ck.whole (rows r l) k)) := by unfold rows; rw [List.map_take]
  rw [e]
  have := pick_rows r (l.take (Ck.whole (rows r l) k)) [] h
  simpa [pick] using this
theorem recs_take_old (r q : Nat) (l : List (List UInt8)) (k : Nat) (h : q < 18446744073709551616) (hq : q ≠ r) (hl : ∀ s ∈ l, s.length ≤ 65000) : recs ((text q l).take k) r = [] := by
  unfold recs text
  rw [Ck.all_take _ _ (rows_small q l hl)]
  simp only
  have e : (rows q l).take (Ck.whole (rows q l) k) = rows q (l.take (Ck.whole (rows q l) k)) := by unfold rows; rw [List.map_take]
  rw [e]
  have := pick_old r q (l.take (Ck.whole (rows q l) k)) [] h hq
  simpa [pick] using this
theorem text_nil (r : Nat) : text r [] = [] := rfl
theorem text_append (r : Nat) (a b : List (List UInt8)) : text r (a ++ b) = text r a ++ text r b := by
  unfold text rows
  rw [List.map_append, Ck.cat_append]
theorem text_snoc (r : Nat) (l : List (List UInt8)) (s : List UInt8) : text r (l ++ [s]) = text r l ++ Ck.seal_ (row r s) := by
  rw [text_append]
  congr 1
  simp [text, rows, Ck.cat]
theorem recs_nil (r : Nat) : recs [] r = [] := by
  unfold recs
  rw [show ([] : List UInt8) = Ck.cat [] from rfl, Ck.all_cat [] (by simp)]
  rfl
/-- what is read of cut off rows, put, is no more than what stood there -/
theorem text_take (r : Nat) (l : List (List UInt8)) (k : Nat) : (text r (l.take k)).length ≤ (text r l).length := by
  have := text_append r (l.take k) (l.drop k)
  rw [List.take_append_drop] at this
  rw [this, List.length_append]
  omega
end Wg
end Go.Proofs.YtenhncohhikllaaDoor

namespace Go.Proofs.YtenhncohhikllaaDoor
namespace Wg
/-- bytes as the disk has them -/
def ba (l : List UInt8) : ByteArray := ⟨l.toArray⟩
theorem ba_list (l : List UInt8) : (ba l).data.toList = l := by simp [ba]
theorem ba_size (l : List UInt8) : (ba l).size = l.length := by simp [ba, ByteArray.size]
theorem ba_append (a b : List UInt8) : ba a ++ ba b = ba (a ++ b) := by
  apply ByteArray.ext
  simp [ba]
theorem ba_take (l : List UInt8) (n : Nat) : (ba l).extract 0 n = ba (l.take n) := by
  apply ByteArray.ext
  simp [ba]
/-- a log's call that writes -/
inductive Act where
  | app (s : List UInt8)
  | chk (s : List UInt8)
/-- a log: its round, its state, its records -/
structure St where
  r : Nat
  st : List UInt8
  l : List (List UInt8)
def St.act (x : St) : Act → St
  | .app s => { x with l := x.l ++ [s] }
  | .chk s => ⟨x.r + 1, s, []⟩
def writes (x : St) : Act → List Dk.W
  | .app s => [⟨1, ba (Ck.seal_ (row x.r s)), false⟩]
  | .chk s => [⟨0, ba (Ck.seal_ (row (x.r + 1) s)), true⟩, ⟨1, ⟨#[]⟩, true⟩]
/-- so many units make it done -/
def key (x : St) : Act → Nat
  | .app s => (Ck.seal_ (row x.r s)).length
  | .chk _ => 1
def few : Act → Prop
  | .app s => s.length ≤ 65000
  | .chk s => s.length ≤ 65000
/-- a log that is opened over these files is this one -/
def Stands (F : Dk.Fl) (x : St) : Prop := head (F 0).data.toList = (x.r, x.st, 0) ∧ recs (F 1).data.toList x.r = x.l
/-- the files are just this log's -/
structure Exact (F : Dk.Fl) (x : St) : Prop where
  head : head (F 0).data.toList = (x.r, x.st, 0)
  rows : F 1 = ba (text x.r x.l)
  low : x.r + 1 ≤ 1099511627776
  small : ∀ s ∈ x.l, s.length ≤ 65000
theorem Exact.stands {F : Dk.Fl} {x : St} (h : Exact F x) : Stands F x := ⟨h.head, by
  rw [h.rows, ba_list]
  have := h.low
  exact recs_text x.r x.l (by omega) h.small⟩
theorem key_pos (x : St) (a : Act) : 0 < key x a := by
  cases a with
  | app s => show 0 < (Ck.seal_ (row x.r s)).length; rw [Ck.seal_length]; omega
  | chk s => exact Nat.one_pos
theorem key_le (x : St) (a : Act) : key x a ≤ Dk.total (writes x a) := by
  cases a with
  | app s => simp [key, writes, Dk.total, Dk.units, ba_size]
  | chk s => simp [key, writes, Dk.total, Dk.units]
/-- of rows that are cut off within the last one the others are whole -/
theorem whole_within (r : Nat) (l : List (List UInt8)) (s : List UInt8) (k : Nat) (h1 : (text r l).length ≤ k) (h2 : k < (text r (l ++ [s])).length) : Ck.whole (rows r (l ++ [s])) k = l.length := by
  have hle := Ck.whole_le (rows r (l ++ [s])) k
  have hlen : (rows r (l ++ [s])).length = l.length + 1 := by simp [rows]
  have hlast := Ck.whole_ends (rows r (l ++ [s])) k l.length (by omega)
  have e1 : (rows r (l ++ [s])).take (l.length + 1) = rows r (l ++ [s]) := List.take_of_length_le (by omega)
  rw [e1] at hlast
  have hn : ¬ l.length < Ck.whole (rows r (l ++ [s])) k := fun h => by
    have := hlast.1 h
    unfold text at h2
    omega
  by_cases h0 : l.length = 0
  · omega
  · have hp := Ck.whole_ends (rows r (l ++ [s])) k (l.length - 1) (by omega)
    have e2 : (rows r (l ++ [s])).take (l.length - 1 + 1) = rows r l := by
      rw [show l.length - 1 + 1 = l.length by omega]
      unfold rows
      rw [← List.map_take, List.take_left]
    rw [e2] at hp
    have := hp.2 h1
    omega
/-- ONE CALL, CUT OFF ANYWHERE: ahead of its key unit the log is as it was, behind it the call is done -/
theorem crash_act {F : Dk.Fl} {x : St} (h : Exact F x) (a : Act) (ha : few a) (m : Nat) :
    (m < key x a → Stands (Dk.after F (writes x a) m) x) ∧ (key x a ≤ m → Stands (Dk.after F (writes x a) m) (x.act a)) := by
  have hr := h.low
  cases a with
  | app s =>
    have hs : s.length ≤ 65000 := ha
    have e0 : ∀ m, Dk.after F (writes x (.app s)) m 0 = F 0 := fun m => by simp [writes, Dk.after, Dk.put]
    have e1 : ∀ m, (Dk.after F (writes x (.app s)) m 1).data.toList = (text x.r (x.l ++ [s])).take ((text x.r x.l).length + m) := fun m => by
      have hu : Dk.units ⟨1, ba (Ck.seal_ (row x.r s)), false⟩ = (Ck.seal_ (row x.r s)).length := by simp [Dk.units, ba_size]
      simp only [writes, Dk.after, hu]
      simp only [Dk.put, if_true, if_false, Bool.false_eq_true]
      have hk : (Ck.seal_ (row x.r s)).take (min (Ck.seal_ (row x.r s)).length m) = (Ck.seal_ (row x.r s)).take m := by
        by_cases hm : m ≤ (Ck.seal_ (row x.r s)).length
        · rw [Nat.min_eq_right hm]
        · rw [Nat.min_eq_left (by omega), List.take_of_length_le (Nat.le_refl _), List.take_of_length_le (by omega)]
      have ht : (text x.r x.l ++ Ck.seal_ (row x.r s)).take ((text x.r x.l).length + m) = text x.r x.l ++ (Ck.seal_ (row x.r s)).take m := by
        rw [List.take_append, List.take_of_length_le (l := text x.r x.l) (by omega), Nat.add_sub_cancel_left]
      rw [h.rows, ba_take, ba_append, ba_list, text_snoc, hk, ht]
    have hsm : ∀ y ∈ x.l ++ [s], y.length ≤ 65000 := fun y hy => by
      rcases List.mem_append.1 hy with hy | hy
      · exact h.small y hy
      · rw [List.mem_singleton.1 hy]; exact hs
    refine ⟨fun hm => ⟨by rw [e0]; exact h.head, ?_⟩, fun hm => ⟨by rw [e0]; exact h.head, ?_⟩⟩
    · rw [e1, recs_take x.r _ _ (by omega) hsm, whole_within x.r x.l s _ (by omega) (by rw [text_snoc, List.length_append]; have : m < (Ck.seal_ (row x.r s)).length := hm; omega), List.take_left]
    · have hk : (Ck.seal_ (row x.r s)).length ≤ m := hm
      rw [e1, List.take_of_length_le (by rw [text_snoc, List.length_append]; omega)]
      exact recs_text x.r _ (by omega) hsm
  | chk s =>
    have hs : s.length ≤ 65000 := ha
    have hu0 : Dk.units ⟨0, ba (Ck.seal_ (row (x.r + 1) s)), true⟩ = 1 := rfl
    have hu1 : Dk.units ⟨1, ⟨#[]⟩, true⟩ = 1 := rfl
    refine ⟨fun hm => ?_, fun hm => ?_⟩
    · obtain rfl : m = 0 := by have : m < 1 := hm; omega
      rw [Dk.after_zero]
      exact h.stands
    · have hm1 : 1 ≤ m := hm
      have e0 : Dk.after F (writes x (.chk s)) m 0 = ba (Ck.seal_ (row (x.r + 1) s)) := by
        simp only [writes, Dk.after, hu0, hu1, Nat.min_eq_left hm1]
        simp [Dk.put]
      refine ⟨by rw [e0, ba_list]; exact head_row (x.r + 1) s (by omega) hs, ?_⟩
      show recs _ (x.r + 1) = []
      by_cases h2 : m = 1
      · subst h2
        have e1 : Dk.after F (writes x (.chk s)) 1 1 = F 1 := by simp [writes, Dk.after, hu0, hu1, Dk.put]
        rw [e1, h.rows, ba_list]
        exact recs_old (x.r + 1) x.r x.l (by omega) (by omega) h.small
      · have e1 : Dk.after F (writes x (.chk s)) m 1 = ⟨#[]⟩ := by
          simp only [writes, Dk.after, hu0, hu1, Nat.min_eq_left hm1]
          rw [Nat.min_eq_left (by omega)]
          simp [Dk.put]
        rw [e1]
        exact recs_nil (x.r + 1)
/-- a call that is done whole -/
theorem exact_act {F : Dk.Fl} {x : St} (h : Exact F x) (a : Act) (ha : few a) (hr : (x.act a).r + 1 ≤ 1099511627776) : Exact (Dk.after F (writes x a) (Dk.total (writes x a))) (x.act a) := by
  have hc := (crash_act h a ha (Dk.total (writes x a))).2 (key_le x a)
  refine ⟨hc.1, ?_, hr, ?_⟩
  · cases a with
    | app s =>
      show _ = ba (text x.r (x.l ++ [s]))
      have hu : Dk.units ⟨1, ba (Ck.seal_ (row x.r s)), false⟩ = (ba (Ck.seal_ (row x.r s))).size := rfl
      simp only [writes, Dk.after, Dk.total, hu, Nat.add_zero, Nat.min_self]
      simp only [Dk.put, if_true, if_false, Bool.false_eq_true]
      rw [h.rows, Dk.extract_all, ba_append, text_snoc]
    | chk s =>
      show _ = ba (text (x.r + 1) [])
      simp [writes, Dk.after, Dk.total, Dk.units, Dk.put, text_nil, ba]
  · cases a with
    | app s =>
      intro y hy
      rcases List.mem_append.1 hy with hy | hy
      · exact h.small y hy
      · rw [List.mem_singleton.1 hy]; exact ha
    | chk s => intro y hy; cases hy
/-- the writes of calls, one behind the other; the log behind them -/
def allw : St → List Act → List Dk.W
  | _, [] => []
  | x, a :: ps => writes x a ++ allw (x.act a) ps
def fin : St → List Act → St
  | x, [] => x
  | x, a :: ps => fin (x.act a) ps
/-- the log of which so many units stayed -/
def lastAt : St → List Act → Nat → St
  | x, [], _ => x
  | x, a :: ps, n => if n < key x a then x else if n < Dk.total (writes x a) then x.act a else lastAt (x.act a) ps (n - Dk.total (writes x a))
theorem act_r (x : St) (a : Act) : (x.act a).r ≤ x.r + 1 := by
  cases a with
  | app s => show x.r ≤ x.r + 1; omega
  | chk s => exact Nat.le_refl _
/-- CALLS, CUT OFF ANYWHERE: the log is the one behind the last call whose key unit stayed -/
theorem crash_acts : ∀ (ps : List Act) {F : Dk.Fl} {x : St} (_ : Exact F x) (_ : ∀ a ∈ ps, few a) (_ : x.r + ps.length + 1 ≤ 1099511627776) (n : Nat), Stands (Dk.after F (allw x ps) n) (lastAt x ps n)
  | [], _, _, h, _, _, _ => h.stands
  | a :: ps, F, x, h, hf, hr, n => by
    have ha := hf a (List.mem_cons_self ..)
    have hr1 := act_r x a
    rw [List.length_cons] at hr
    have hc := crash_act h a ha n
    show Stands (Dk.after F (writes x a ++ allw (x.act a) ps) n) _
    rw [Dk.after_append]
    unfold lastAt
    by_cases h1 : n < key x a
    · rw [if_pos h1, show n - Dk.total (writes x a) = 0 by have := key_le x a; omega, Dk.after_zero]
      exact hc.1 h1
    · rw [if_neg h1]
      by_cases h2 : n < Dk.total (writes x a)
      · rw [if_pos h2, show n - Dk.total (writes x a) = 0 by omega, Dk.after_zero]
        exact hc.2 (by omega)
      · rw [if_neg h2, Dk.after_more _ _ n (by omega)]
        exact crash_acts ps (exact_act h a ha (by omega)) (fun b hb => hf b (List.mem_cons_of_mem _ hb)) (by omega) _
theorem exact_acts : ∀ (ps : List Act) {F : Dk.Fl} {x : St} (_ : Exact F x) (_ : ∀ a ∈ ps, few a) (_ : x.r + ps.length + 1 ≤ 1099511627776), Exact (Dk.after F (allw x ps) (Dk.total (allw x ps))) (fin x ps)
  | [], _, _, h, _, _ => h
  | a :: ps, F, x, h, hf, hr => by
    have ha := hf a (List.mem_cons_self ..)
    have hr1 := act_r x a
    rw [List.length_cons] at hr
    show Exact (Dk.after F (writes x a ++ allw (x.act a) ps) (Dk.total (writes x a ++ allw (x.act a) ps))) _
    rw [Dk.after_append, Dk.total_append, Dk.after_more _ (writes x a) _ (by omega), Nat.add_sub_cancel_left]
    exact exact_acts ps (exact_act h a ha (by omega)) (fun b hb => hf b (List.mem_cons_of_mem _ hb)) (by omega)
/-- a new disk's log -/
theorem exact_new (F : Dk.Fl) (h0 : F 0 = ⟨#[]⟩) (h1 : F 1 = ⟨#[]⟩) : Exact F ⟨0, [], []⟩ :=
  ⟨by rw [h0]; exact head_nil, h1, by decide, by simp⟩
end Wg
end Go.Proofs.YtenhncohhikllaaDoor
