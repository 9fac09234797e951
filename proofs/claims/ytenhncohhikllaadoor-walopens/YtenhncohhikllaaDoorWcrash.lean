/-
  What a crash leaves of a log, in plain mathematics: one call, of whose writes the first units stayed.
-/
import Derived.Test.YtenhncohhikllaaDoorWmath
import Derived.Test.YtenhncohhikllaaDoorDmath
namespace Go.Proofs.YtenhncohhikllaaDoor
namespace Wg
/-- bytes as the disk has them -/
def ba (l : List UInt8) : ByteArray := ⟨l.toArray⟩
theorem ba_list (l : List UInt8) : (ba l).data.toList = l := by simp [ba]
theorem ba_size (l : List UInt8) : (ba l).size = l.length := by simp [ba, ByteArray.size]
theorem ba_append (a b : List UInt8) : ba a ++ ba b = ba (a ++ b) := by
  apply ByteArray.ext
  simp [ba]
theorem ba_take (l : List UInt8) (n : Nat) : (ba l).extract 0 n = ba (l.take n) := by
  apply ByteArray.ext
  simp [ba]
/-- a log's call that writes -/
inductive Act where
  | app (s : List UInt8)
  | chk (s : List UInt8)
/-- a log: its round, its state, its records -/
structure St where
  r : Nat
  st : List UInt8
  l : List (List UInt8)
def St.act (x : St) : Act → St
  | .app s => { x with l := x.l ++ [s] }
  | .chk s => ⟨x.r + 1, s, []⟩
def writes (x : St) : Act → List Dk.W
  | .app s => [⟨1, ba (Ck.seal_ (row x.r s)), false⟩]
  | .chk s => [⟨0, ba (Ck.seal_ (row (x.r + 1) s)), true⟩, ⟨1, ⟨#[]⟩, true⟩]
/-- so many units make it done -/
def key (x : St) : Act → Nat
  | .app s => (Ck.seal_ (row x.r s)).length
  | .chk _ => 1
def few : Act → Prop
  | .app s => s.length ≤ 65000
  | .chk s => s.length ≤ 65000
/-- a log that is opened over these files is this one -/
def Stands (F : Dk.Fl) (x : St) : Prop := head (F 0).data.toList = (x.r, x.st, 0) ∧ recs (F 1).data.toList x.r = x.l
/-- the files are just this log's -/
structure Exact (F : Dk.Fl) (x : St) : Prop where
  head : head (F 0).data.toList = (x.r, x.st, 0)
  rows : F 1 = ba (text x.r x.l)
  low : x.r + 1 ≤ 1099511627776
  small : ∀ s ∈ x.l, s.length ≤ 65000
theorem Exact.stands {F : Dk.Fl} {x : St} (h : Exact F x) : Stands F x := ⟨h.head, by
  rw [h.rows, ba_list]
  have := h.low
  exact recs_text x.r x.l (by omega) h.small⟩
theorem key_pos (x : St) (a : Act) : 0 < key x a := by
  cases a with
  | app s => show 0 < (Ck.seal_ (row x.r s)).length; rw [Ck.seal_length]; omega
  | chk s => exact Nat.one_pos
theorem key_le (x : St) (a : Act) : key x a ≤ Dk.total (writes x a) := by
  cases a with
  | app s => simp [key, writes, Dk.total, Dk.units, ba_size]
  | chk s => simp [key, writes, Dk.total, Dk.units]
/-- of rows that are cut off within the last one the others are whole -/
theorem whole_within (r : Nat) (l : List (List UInt8)) (s : List UInt8) (k : Nat) (h1 : (text r l).length ≤ k) (h2 : k < (text r (l ++ [s])).length) : Ck.whole (rows r (l ++ [s])) k = l.length := by
  have hle := Ck.whole_le (rows r (l ++ [s])) k
  have hlen : (rows r (l ++ [s])).length = l.length + 1 := by simp [rows]
  have hlast := Ck.whole_ends (rows r (l ++ [s])) k l.length (by omega)
  have e1 : (rows r (l ++ [s])).take (l.length + 1) = rows r (l ++ [s]) := List.take_of_length_le (by omega)
  rw [e1] at hlast
  have hn : ¬ l.length < Ck.whole (rows r (l ++ [s])) k := fun h => by
    have := hlast.1 h
    unfold text at h2
    omega
  by_cases h0 : l.length = 0
  · omega
  · have hp := Ck.whole_ends (rows r (l ++ [s])) k (l.length - 1) (by omega)
    have e2 : (rows r (l ++ [s])).take (l.length - 1 + 1) = rows r l := by
      rw [show l.length - 1 + 1 = l.length by omega]
      unfold rows
      rw [← List.map_take, List.take_left]
    rw [e2] at hp
    have := hp.2 h1
    omega
/-- ONE CALL, CUT OFF ANYWHERE: ahead of its key unit the log is as it was, behind it the call is done -/
theorem crash_act {F : Dk.Fl} {x : St} (h : Exact F x) (a : Act) (ha : few a) (m : Nat) :
    (m < key x a → Stands (Dk.after F (writes x a) m) x) ∧ (key x a ≤ m → Stands (Dk.after F (writes x a) m) (x.act a)) := by
  have hr := h.low
  cases a with
  | app s =>
    have hs : s.length ≤ 65000 := ha
    have e0 : ∀ m, Dk.after F (writes x (.app s)) m 0 = F 0 := fun m => by simp [writes, Dk.after, Dk.put]
    have e1 : ∀ m, (Dk.after F (writes x (.app s)) m 1).data.toList = (text x.r (x.l ++ [s])).take ((text x.r x.l).length + m) := fun m => by
      have hu : Dk.units ⟨1, ba (Ck.seal_ (row x.r s)), false⟩ = (Ck.seal_ (row x.r s)).length := by simp [Dk.units, ba_size]
      simp only [writes, Dk.after, hu]
      simp only [Dk.put, if_true, if_false, Bool.false_eq_true]
      have hk : (Ck.seal_ (row x.r s)).take (min (Ck.seal_ (row x.r s)).length m) = (Ck.seal_ (row x.r s)).take m := by
        by_cases hm : m ≤ (Ck.seal_ (row x.r s)).length
        · rw [Nat.min_eq_right hm]
        · rw [Nat.min_eq_left (by omega), List.take_of_length_le (Nat.le_refl _), List.take_of_length_le (by omega)]
      have ht : (text x.r x.l ++ Ck.seal_ (row x.r s)).take ((text x.r x.l).length + m) = text x.r x.l ++ (Ck.seal_ (row x.r s)).take m := by
        rw [List.take_append, List.take_of_length_le (l := text x.r x.l) (by omega), Nat.add_sub_cancel_left]
      rw [h.rows, ba_take, ba_append, ba_list, text_snoc, hk, ht]
    have hsm : ∀ y ∈ x.l ++ [s], y.length ≤ 65000 := fun y hy => by
      rcases List.mem_append.1 hy with hy | hy
      · exact h.small y hy
      · rw [List.mem_singleton.1 hy]; exact hs
    refine ⟨fun hm => ⟨by rw [e0]; exact h.head, ?_⟩, fun hm => ⟨by rw [e0]; exact h.head, ?_⟩⟩
    · rw [e1, recs_take x.r _ _ (by omega) hsm, whole_within x.r x.l s _ (by omega) (by rw [text_snoc, List.length_append]; have : m < (Ck.seal_ (row x.r s)).length := hm; omega), List.take_left]
    · have hk : (Ck.seal_ (row x.r s)).length ≤ m := hm
      rw [e1, List.take_of_length_le (by rw [text_snoc, List.length_append]; omega)]
      exact recs_text x.r _ (by omega) hsm
  | chk s =>
    have hs : s.length ≤ 65000 := ha
    have hu0 : Dk.units ⟨0, ba (Ck.seal_ (row (x.r + 1) s)), true⟩ = 1 := rfl
    have hu1 : Dk.units ⟨1, ⟨#[]⟩, true⟩ = 1 := rfl
    refine ⟨fun hm => ?_, fun hm => ?_⟩
    · obtain rfl : m = 0 := by have : m < 1 := hm; omega
      rw [Dk.after_zero]
      exact h.stands
    · have hm1 : 1 ≤ m := hm
      have e0 : Dk.after F (writes x (.chk s)) m 0 = ba (Ck.seal_ (row (x.r + 1) s)) := by
        simp only [writes, Dk.after, hu0, hu1, Nat.min_eq_left hm1]
        simp [Dk.put]
      refine ⟨by rw [e0, ba_list]; exact head_row (x.r + 1) s (by omega) hs, ?_⟩
      show recs _ (x.r + 1) = []
      by_cases h2 : m = 1
      · subst h2
        have e1 : Dk.after F (writes x (.chk s)) 1 1 = F 1 := by simp [writes, Dk.after, hu0, hu1, Dk.put]
        rw [e1, h.rows, ba_list]
        exact recs_old (x.r + 1) x.r x.l (by omega) (by omega) h.small
      · have e1 : Dk.after F (writes x (.chk s)) m 1 = ⟨#[]⟩ := by
          simp only [writes, Dk.after, hu0, hu1, Nat.min_eq_left hm1]
          rw [Nat.min_eq_left (by omega)]
          simp [Dk.put]
        rw [e1]
        exact recs_nil (x.r + 1)
/-- a call that is done whole -/
theorem exact_act {F : Dk.Fl} {x : St} (h : Exact F x) (a : Act) (ha : few a) (hr : (x.act a).r + 1 ≤ 1099511627776) : Exact (Dk.after F (writes x a) (Dk.total (writes x a))) (x.act a) := by
  have hc := (crash_act h a ha (Dk.total (writes x a))).2 (key_le x a)
  refine ⟨hc.1, ?_, hr, ?_⟩
  · cases a with
    | app s =>
      show _ = ba (text x.r (x.l ++ [s]))
      have hu : Dk.units ⟨1, ba (Ck.seal_ (row x.r s)), false⟩ = (ba (Ck.seal_ (row x.r s))).size := rfl
      simp only [writes, Dk.after, Dk.total, hu, Nat.add_zero, Nat.min_self]
      simp only [Dk.put, if_true, if_false, Bool.false_eq_true]
      rw [h.rows, Dk.extract_all, ba_append, text_snoc]
    | chk s =>
      show _ = ba (text (x.r + 1) [])
      simp [writes, Dk.after, Dk.total, Dk.units, Dk.put, text_nil, ba]
  · cases a with
    | app s =>
      intro y hy
      rcases List.mem_append.1 hy with hy | hy
      · exact h.small y hy
      · rw [List.mem_singleton.1 hy]; exact ha
    | chk s => intro y hy; cases hy
/-- the writes of calls, one behind the other; the log behind them -/
def allw : St → List Act → List Dk.W
  | _, [] => []
  | x, a :: ps => writes x a ++ allw (x.act a) ps
def fin : St → List Act → St
  | x, [] => x
  | x, a :: ps => fin (x.act a) ps
/-- the log of which so many units stayed -/
def lastAt : St → List Act → Nat → St
  | x, [], _ => x
  | x, a :: ps, n => if n < key x a then x else if n < Dk.total (writes x a) then x.act a else lastAt (x.act a) ps (n - Dk.total (writes x a))
theorem act_r (x : St) (a : Act) : (x.act a).r ≤ x.r + 1 := by
  cases a with
  | app s => show x.r ≤ x.r + 1; omega
  | chk s => exact Nat.le_refl _
/-- CALLS, CUT OFF ANYWHERE: the log is the one behind the last call whose key unit stayed -/
theorem crash_acts : ∀ (ps : List Act) {F : Dk.Fl} {x : St} (_ : Exact F x) (_ : ∀ a ∈ ps, few a) (_ : x.r + ps.length + 1 ≤ 1099511627776) (n : Nat), Stands (Dk.after F (allw x ps) n) (lastAt x ps n)
  | [], _, _, h, _, _, _ => h.stands
  | a :: ps, F, x, h, hf, hr, n => by
    have ha := hf a (List.mem_cons_self ..)
    have hr1 := act_r x a
    rw [List.length_cons] at hr
    have hc := crash_act h a ha n
    show Stands (Dk.after F (writes x a ++ allw (x.act a) ps) n) _
    rw [Dk.after_append]
    unfold lastAt
    by_cases h1 : n < key x a
    · rw [if_pos h1, show n - Dk.total (writes x a) = 0 by have := key_le x a; omega, Dk.after_zero]
      exact hc.1 h1
    · rw [if_neg h1]
      by_cases h2 : n < Dk.total (writes x a)
      · rw [if_pos h2, show n - Dk.total (writes x a) = 0 by omega, Dk.after_zero]
        exact hc.2 (by omega)
      · rw [if_neg h2, Dk.after_more _ _ n (by omega)]
        exact crash_acts ps (exact_act h a ha (by omega)) (fun b hb => hf b (List.mem_cons_of_mem _ hb)) (by omega) _
theorem exact_acts : ∀ (ps : List Act) {F : Dk.Fl} {x : St} (_ : Exact F x) (_ : ∀ a ∈ ps, few a) (_ : x.r + ps.length + 1 ≤ 1099511627776), Exact (Dk.after F (allw x ps) (Dk.total (allw x ps))) (fin x ps)
  | [], _, _, h, _, _ => h
  | a :: ps, F, x, h, hf, hr => by
    have ha := hf a (List.mem_cons_self ..)
    have hr1 := act_r x a
    rw [List.length_cons] at hr
    show Exact (Dk.after F (writes x a ++ allw (x.act a) ps) (Dk.total (writes x a ++ allw (x.act a) ps))) _
    rw [Dk.after_append, Dk.total_append, Dk.after_more _ (writes x a) _ (by omega), Nat.add_sub_cancel_left]
    exact exact_acts ps (exact_act h a ha (by omega)) (fun b hb => hf b (List.mem_cons_of_mem _ hb)) (by omega)
/-- a new disk's log -/
theorem exact_new (F : Dk.Fl) (h0 : F 0 = ⟨#[]⟩) (h1 : F 1 = ⟨#[]⟩) : Exact F ⟨0, [], []⟩ :=
  ⟨by rw [h0]; exact head_nil, h1, by decide, by simp⟩
end Wg
end Go.Proofs.YtenhncohhikllaaDoor
