/-
  What a disk is, in plain mathematics: files, writes, and what of them stays.
-/
import Init
namespace Go.Proofs.YtenhncohhikllaaDoor
namespace Dk
/-- a write: of which file, its bytes; whether it replaces all -/
structure W where
  file : Nat
  s : ByteArray
  whole : Bool
abbrev Fl := Nat → ByteArray
def units (w : W) : Nat := if w.whole = true then 1 else w.s.size
/-- files behind the first n units of a write -/
def put (F : Fl) (w : W) (n : Nat) : Fl := fun i => if i = w.file then (if w.whole = true then (if n = 0 then F i else w.s) else F i ++ w.s.extract 0 n) else F i
def total : List W → Nat
  | [] => 0
  | w :: ws => units w + total ws
/-- files behind the first n units of writes -/
def after (F : Fl) : List W → Nat → Fl
  | [], _ => F
  | w :: ws, n => after (put F w (min (units w) n)) ws (n - min (units w) n)

theorem total_append (a b : List W) : total (a ++ b) = total a + total b := by
  induction a with
  | nil => simp [total]
  | cons w a ih => simp only [List.cons_append, total, ih]; omega
theorem total_snoc (a : List W) (w : W) : total (a ++ [w]) = total a + units w := by rw [total_append]; simp [total]
theorem extract_none (s : ByteArray) : s.extract 0 0 = ByteArray.empty := by
  apply ByteArray.ext
  simp
theorem extract_all (s : ByteArray) : s.extract 0 s.size = s := by
  apply ByteArray.ext
  simp
theorem append_none (s : ByteArray) : s ++ ByteArray.empty = s := by
  apply ByteArray.ext
  simp
theorem put_zero (F : Fl) (w : W) : put F w 0 = F := by
  funext i
  unfold put
  rw [extract_none, append_none]
  simp
theorem after_zero (F : Fl) (ws : List W) : after F ws 0 = F := by
  induction ws generalizing F with
  | nil => rfl
  | cons w ws ih => simp only [after, Nat.min_zero, Nat.sub_zero, put_zero, ih]
theorem after_snoc (F : Fl) (ws : List W) (w : W) (n : Nat) : after F (ws ++ [w]) n = put (after F ws n) w (min (units w) (n - total ws)) := by
  induction ws generalizing F n with
  | nil => simp [after, total]
  | cons x ws ih =>
    simp only [List.cons_append, after, total]
    rw [ih]
    congr 1
    omega
theorem after_more (F : Fl) (ws : List W) (n : Nat) (h : total ws ≤ n) : after F ws n = after F ws (total ws) := by
  induction ws generalizing F n with
  | nil => rfl
  | cons x ws ih =>
    simp only [after, total] at h ⊢
    rw [Nat.min_eq_left (by omega), Nat.min_eq_left (by omega), ih _ _ (by omega), ih _ (units x + total ws - units x) (by omega)]
theorem after_take (F : Fl) (ws : List W) (k n : Nat) : after F (ws.take k) n = after F ws (min n (total (ws.take k))) := by
  induction ws generalizing F k n with
  | nil => simp [after]
  | cons x ws ih =>
    cases k with
    | zero => simp only [List.take_zero, total, Nat.min_zero, after_zero]; rfl
    | succ k =>
      simp only [List.take_succ_cons, after, total]
      rw [ih, show min (units x) (min n (units x + total (List.take k ws))) = min (units x) n by omega]
      congr 1
      omega
theorem after_append (F : Fl) (a b : List W) (n : Nat) : after F (a ++ b) n = after (after F a n) b (n - total a) := by
  induction a generalizing F n with
  | nil => simp [after, total]
  | cons x a ih =>
    simp only [List.cons_append, after, total]
    rw [ih]
    congr 1
    omega
theorem take_snoc {ws : List W} {k : Nat} (h : k < ws.length) : ws.take (k + 1) = ws.take k ++ [ws[k]] := (List.take_append_getElem h).symm
theorem total_take_le (ws : List W) (k : Nat) : total (ws.take k) ≤ total ws := by
  have := total_append (ws.take k) (ws.drop k)
  rw [List.take_append_drop] at this
  omega
theorem total_le (ws : List W) (h : ∀ x ∈ ws, x.s.size ≤ 65536) : total ws ≤ ws.length * 65536 := by
  induction ws with
  | nil => simp [total]
  | cons x ws ih =>
    have h1 := ih fun y hy => h y (List.mem_cons_of_mem _ hy)
    have h2 := h x (List.mem_cons_self ..)
    have h3 : units x ≤ 65536 := by unfold units; split <;> omega
    simp only [total, List.length_cons]
    omega

/-- no file gets too big, wherever it stops -/
def Fits (F : Fl) (ws : List W) : Prop := ∀ n f, (after F ws n f).size ≤ 65536
theorem Fits.take {F : Fl} {ws : List W} (h : Fits F ws) (k : Nat) : Fits F (ws.take k) := fun n f => by rw [after_take]; exact h _ f
theorem Fits.base {F : Fl} {ws : List W} (h : Fits F ws) (f : Nat) : (F f).size ≤ 65536 := by have := h 0 f; rwa [after_zero] at this
theorem fits_nil {F : Fl} (h : ∀ f, (F f).size ≤ 65536) : Fits F [] := fun _ f => h f
theorem Fits.settle {F : Fl} {ws : List W} (h : Fits F ws) (n : Nat) : Fits (after F ws n) [] := fits_nil fun f => h n f
theorem put_size (F : Fl) (w : W) (n f : Nat) (hn : n ≤ units w) : (put F w n f).size ≤ (if f = w.file then (if w.whole = true then max (F f).size w.s.size else (F f).size + w.s.size) else (F f).size) := by
  unfold put
  unfold units at hn
  by_cases h : f = w.file
  · simp only [if_pos h]
    by_cases hw : w.whole = true
    · simp only [if_pos hw]; split <;> omega
    · simp only [if_neg hw] at hn ⊢
      rw [ByteArray.size_append, ByteArray.size_extract]; omega
  · simp only [if_neg h]; omega
theorem Fits.snoc {F : Fl} {ws : List W} (h : Fits F ws) (w : W) (hs : w.s.size ≤ 65536) (hw : w.whole = true ∨ (after F ws (total ws) w.file).size + w.s.size ≤ 65536) : Fits F (ws ++ [w]) := by
  intro n f
  rw [after_snoc]
  by_cases hn : n ≤ total ws
  · rw [show min (units w) (n - total ws) = 0 by omega, put_zero]; exact h n f
  · have h1 := put_size (after F ws n) w (min (units w) (n - total ws)) f (Nat.min_le_left _ _)
    have h2 := h n f
    rw [after_more F ws n (by omega)] at h1 h2 ⊢
    by_cases hf : f = w.file
    · subst hf
      rw [if_pos rfl] at h1
      rcases hw with hw | hw
      · rw [if_pos hw] at h1; omega
      · split at h1 <;> omega
    · rw [if_neg hf] at h1; omega

/-- the writes that have units -/
def clean (ws : List W) : List W := ws.filter fun w => decide (units w ≠ 0)
theorem clean_snoc (ws : List W) (w : W) : clean (ws ++ [w]) = if units w = 0 then clean ws else clean ws ++ [w] := by
  unfold clean
  rw [List.filter_append]
  by_cases h : units w = 0 <;> simp [h]
theorem total_clean (ws : List W) : total (clean ws) = total ws := by
  induction ws with
  | nil => rfl
  | cons w ws ih =>
    unfold clean at ih ⊢
    by_cases h : units w = 0
    · rw [List.filter_cons_of_neg (by simpa using h)]; simp only [total, ih]; omega
    · rw [List.filter_cons_of_pos (by simpa using h)]; simp only [total, ih]
theorem after_clean (F : Fl) (ws : List W) (n : Nat) : after F (clean ws) n = after F ws n := by
  induction ws generalizing F n with
  | nil => rfl
  | cons w ws ih =>
    unfold clean at ih ⊢
    by_cases h : units w = 0
    · rw [List.filter_cons_of_neg (by simpa using h)]; simp only [after, h, Nat.zero_min, put_zero, Nat.sub_zero, ih]
    · rw [List.filter_cons_of_pos (by simpa using h)]; simp only [after, ih]
theorem put_all (F : Fl) (w : W) : put F w (units w) = fun i => if i = w.file then (if w.whole = true then w.s else F i ++ w.s) else F i := by
  funext i
  unfold put units
  by_cases h : w.whole = true
  · simp [h]
  · simp [h]
theorem now_snoc (F : Fl) (ws : List W) (w : W) : after F (ws ++ [w]) (total (ws ++ [w])) = put (after F ws (total ws)) w (units w) := by
  rw [after_snoc, total_snoc, after_more F ws _ (by omega)]
  congr 1
  omega
end Dk
end Go.Proofs.YtenhncohhikllaaDoor
