/-
  Layer 6's mathematics: numbers and texts one behind the other, events and marks as bytes, and that what is put is got.
-/
import Derived.Test.YtlfmpoinjbmjoaaGreatDoorVback
import Derived.Test.YtlfmpoinjbmjoaaGreatDoorTmath
namespace Go.Proofs.YtlfmpoinjbmjoaaGreatDoor
namespace Ev

/-- a number or a text -/
inductive It where
  | n (k : Nat)
  | t (s : List UInt8)
def It.kind : It → Bool
  | .n _ => true
  | .t _ => false
def iput : It → List UInt8
  | .n k => Vn.vput k
  | .t s => Vn.vput s.length ++ s
def fits : It → Prop
  | .n k => k < 18446744073709551616
  | .t s => s.length ≤ 65536
def iget (k : Bool) (l : List UInt8) (a : Int) : It × Nat × Nat := if k then (.n (vget l a).1, (vget l a).2) else (.t (vcut l a).1, (vcut l a).2)
theorem iget_n (l : List UInt8) (a : Int) : iget true l a = (.n (vget l a).1, (vget l a).2) := rfl
theorem iget_t (l : List UInt8) (a : Int) : iget false l a = (.t (vcut l a).1, (vcut l a).2) := rfl

theorem vget_body (l : List UInt8) (k : Nat) (h : k ≤ l.length) : vget l (k : Int) = match l.drop k with
  | [] => (0, 0, 3)
  | c :: r => if (c :: r).length < Vn.need c.toNat then (0, 0, 3) else
    if Vn.vsz (Vn.tell ((c :: r).take (Vn.need c.toNat))) = Vn.need c.toNat then (Vn.tell ((c :: r).take (Vn.need c.toNat)), k + Vn.need c.toNat, 0) else (0, 0, 4) := by
  rw [vget, if_neg (by omega), Int.toNat_natCast]
  cases l.drop k <;> rfl
theorem vget_shift (p l : List UInt8) (k : Nat) : vget (p ++ l) ((p.length + k : Nat) : Int) = if (vget l k).2.2 = 0 then ((vget l k).1, p.length + (vget l k).2.1, 0) else vget l k := by
  have hd : (p ++ l).drop (p.length + k) = l.drop k := by rw [List.drop_append, List.drop_of_length_le (by omega)]; simp
  by_cases h : l.length < k
  · rw [vget_arg l k (.inr (by omega)), vget_arg (p ++ l) _ (.inr (by rw [List.length_append]; omega))]; simp
  rw [vget_body l k (by omega), vget_body (p ++ l) (p.length + k) (by rw [List.length_append]; omega), hd]
  cases l.drop k with
  | nil => simp
  | cons c r =>
    simp only
    by_cases h1 : (c :: r).length < Vn.need c.toNat
    · simp only [if_pos h1]; rfl
    · simp only [if_neg h1]
      by_cases h2 : Vn.vsz (Vn.tell ((c :: r).take (Vn.need c.toNat))) = Vn.need c.toNat
      · simp only [if_pos h2, if_true, Nat.add_assoc]
      · simp only [if_neg h2]; rfl
theorem vcut_shift (p l : List UInt8) (k : Nat) : vcut (p ++ l) ((p.length + k : Nat) : Int) = if (vcut l k).2.2 = 0 then ((vcut l k).1, p.length + (vcut l k).2.1, 0) else vcut l k := by
  have hg := vget_shift p l k
  have hle := (vget_le l k).2.1
  unfold vcut
  by_cases h : (vget l (k : Int)).2.2 = 0
  · rw [if_pos h] at hg
    rw [hg]
    simp only [h]
    have hd : (p ++ l).drop (p.length + (vget l (k : Int)).2.1) = l.drop (vget l (k : Int)).2.1 := by rw [List.drop_append, List.drop_of_length_le (by omega)]; simp
    simp only [ne_eq, not_true_eq_false, if_false, hd]
    by_cases h2 : 65536 < (vget l (k : Int)).1
    · rw [if_pos h2, if_pos h2]; simp
    rw [if_neg h2, if_neg h2]
    by_cases h3 : l.length - (vget l (k : Int)).2.1 < (vget l (k : Int)).1
    · rw [if_pos h3, if_pos (by rw [List.length_append]; omega)]; simp
    · rw [if_neg h3, if_neg (by rw [List.length_append]; omega)]; simp; omega
  · rw [if_neg h] at hg
    rw [hg]
    simp [h]
theorem vget_short_at (p : List UInt8) (n j : Nat) (hn : n < 18446744073709551616) (hj : j < Vn.vsz n) : (vget (p ++ (Vn.vput n).take j) (p.length : Int)).2.2 = 3 := by
  have h := vget_shift p ((Vn.vput n).take j) 0
  have h2 := vget_cut n j hn hj
  rw [show (((0 : Nat) : Int)) = 0 from rfl, h2] at h
  rw [show (p.length : Int) = ((p.length + 0 : Nat) : Int) by simp, h]; simp
theorem vcut_short_at (p s : List UInt8) (j : Nat) (hs : s.length ≤ 65536) (hj : j < Vn.vsz s.length + s.length) : (vcut (p ++ (Vn.vput s.length ++ s).take j) (p.length : Int)).2.2 = 3 := by
  have h := vcut_shift p ((Vn.vput s.length ++ s).take j) 0
  have h2 := vcut_cut s j hs hj
  rw [show (((0 : Nat) : Int)) = 0 from rfl, h2] at h
  rw [show (p.length : Int) = ((p.length + 0 : Nat) : Int) by simp, h]; simp

theorem iget_put (p t : List UInt8) (x : It) (h : fits x) : iget x.kind (p ++ (iput x ++ t)) p.length = (x, p.length + (iput x).length, 0) := by
  cases x with
  | n k => simp only [It.kind, iput, iget_n, vget_put p t k h, Vn.vput_length]
  | t s => simp only [It.kind, iput, iget_t, vcut_text p s t h, List.length_append, Vn.vput_length, Nat.add_assoc]
theorem iget_cut (p : List UInt8) (x : It) (j : Nat) (h : fits x) (hj : j < (iput x).length) : (iget x.kind (p ++ (iput x).take j) p.length).2.2 = 3 := by
  cases x with
  | n k => simp only [iput, Vn.vput_length] at hj; simp only [It.kind, iput, iget_n]; exact vget_short_at p k j h hj
  | t s => simp only [iput, List.length_append, Vn.vput_length] at hj; simp only [It.kind, iput, iget_t]; exact vcut_short_at p s j h hj
theorem vget_got (l : List UInt8) (a n t : Nat) (h : vget l a = (n, t, 0)) : a ≤ t ∧ t ≤ l.length ∧ n < 18446744073709551616 ∧ Vn.vput n = (l.drop a).take (t - a) := by
  by_cases ha : l.length < a
  · rw [vget_arg l a (.inr (by omega))] at h; cases h
  have hs := vget_shift (l.take a) (l.drop a) 0
  rw [List.take_append_drop, List.length_take, Nat.min_eq_left (by omega), Nat.add_zero, h, show (((0 : Nat) : Int)) = 0 from rfl] at hs
  by_cases h0 : (vget (l.drop a) 0).2.2 = 0
  · rw [if_pos h0] at hs
    simp only [Prod.mk.injEq, and_true] at hs
    obtain ⟨h1, h2⟩ := hs
    obtain ⟨g1, g2, g3, g4⟩ := vput_got (l.drop a) (vget (l.drop a) 0).1 (vget (l.drop a) 0).2.1 (by rw [← h0])
    rw [List.length_drop] at g2
    refine ⟨by omega, by omega, by omega, ?_⟩
    rw [h1, g4, show t - a = (vget (l.drop a) 0).2.1 by omega]
  · rw [if_neg h0] at hs
    rw [← hs] at h0
    exact absurd rfl h0
theorem iget_got (k : Bool) (l : List UInt8) (a t : Nat) (x : It) (h : iget k l a = (x, t, 0)) : a ≤ t ∧ t ≤ l.length ∧ fits x ∧ x.kind = k ∧ iput x = (l.drop a).take (t - a) := by
  cases k with
  | true =>
    rw [iget_n] at h
    simp only [Prod.mk.injEq] at h
    obtain ⟨rfl, h⟩ := h
    obtain ⟨g1, g2, g3, g4⟩ := vget_got l a (vget l a).1 t (by rw [← h])
    exact ⟨g1, g2, g3, rfl, g4⟩
  | false =>
    rw [iget_t] at h
    simp only [Prod.mk.injEq] at h
    obtain ⟨rfl, h⟩ := h
    unfold vcut at h
    by_cases h0 : (vget l a).2.2 = 0
    · rw [if_neg (by simp [h0])] at h
      by_cases h1 : 65536 < (vget l a).1
      · rw [if_pos h1] at h; cases h
      rw [if_neg h1] at h
      by_cases h2 : l.length - (vget l a).2.1 < (vget l a).1
      · rw [if_pos h2] at h; cases h
      rw [if_neg h2] at h
      simp only [Prod.mk.injEq, and_true] at h
      obtain ⟨g1, g2, g3, g4⟩ := vget_got l a (vget l a).1 (vget l a).2.1 (by rw [← h0])
      have hv : (vcut l a).1 = (l.drop (vget l a).2.1).take (vget l a).1 := by unfold vcut; rw [if_neg (by simp [h0]), if_neg h1, if_neg h2]
      have hlen : (vcut l a).1.length = (vget l a).1 := by rw [hv, List.length_take, List.length_drop]; omega
      refine ⟨by omega, by omega, by simp only [fits]; omega, rfl, ?_⟩
      rw [iput, hlen, g4, hv]
      have e : (l.drop a).take (t - a) = ((l.drop a).take ((vget l a).2.1 - a)) ++ (((l.drop a).drop ((vget l a).2.1 - a)).take (vget l a).1) := by
        rw [← h, show (vget l a).2.1 + (vget l a).1 - a = ((vget l a).2.1 - a) + (vget l a).1 by omega, List.take_add]
      rw [e, List.drop_drop, show a + ((vget l a).2.1 - a) = (vget l a).2.1 by omega]
    · rw [if_pos h0] at h
      simp only [Prod.mk.injEq] at h
      exact absurd h.2 h0
theorem iget_err (k : Bool) (l : List UInt8) (a : Int) (h : (iget k l a).2.2 ≠ 0) : (iget k l a).2.1 = 0 := by
  cases k with
  | true =>
    rw [iget_n] at h ⊢
    have := vget_err l a h
    simp only
    rw [this]
  | false =>
    rw [iget_t] at h ⊢
    simp only at h ⊢
    unfold vcut at h ⊢
    split
    · rfl
    · rename_i h1
      rw [if_neg h1] at h
      split
      · rfl
      · rename_i h2
        rw [if_neg h2] at h
        split
        · rfl
        · rename_i h3
          rw [if_neg h3] at h
          exact absurd rfl h
theorem iget_le (k : Bool) (l : List UInt8) (a : Int) : (iget k l a).2.1 ≤ l.length ∧ (iget k l a).2.2 ≤ 4 := by
  have h := vget_le l a
  cases k with
  | true => exact ⟨h.2.1, h.2.2⟩
  | false =>
    rw [iget_t]
    unfold vcut
    split
    · exact ⟨Nat.zero_le _, h.2.2⟩
    · split
      · exact ⟨Nat.zero_le _, by decide⟩
      · split
        · exact ⟨Nat.zero_le _, by decide⟩
        · exact ⟨by simp only; omega, Nat.zero_le _⟩

def kinds5 : List Bool := [true, true, true, false, false]
/-- one thing more -/
def istep (l : List UInt8) (st : List It × Int × Nat) (k : Bool) : List It × Int × Nat :=
  if st.2.2 = 0 then (if (iget k l st.2.1).2.2 = 0 then (st.1 ++ [(iget k l st.2.1).1], (iget k l st.2.1).2.1, 0) else ([], 0, (iget k l st.2.1).2.2)) else st
/-- things one behind the other: they, the place behind them, the first error -/
def igets (ks : List Bool) (l : List UInt8) (a : Int) : List It × Int × Nat := ks.foldl (istep l) ([], a, 0)
theorem igets_nil (l : List UInt8) (a : Int) : igets [] l a = ([], a, 0) := rfl
theorem igets_snoc (ks : List Bool) (k : Bool) (l : List UInt8) (a : Int) : igets (ks ++ [k]) l a = istep l (igets ks l a) k := by simp [igets]
theorem istep_ok (l : List UInt8) (xs : List It) (a : Int) (k : Bool) (x : It) (t : Nat) (h : iget k l a = (x, t, 0)) : istep l (xs, a, 0) k = (xs ++ [x], ((t : Nat) : Int), 0) := by simp [istep, h]
theorem istep_bad (l : List UInt8) (st : List It × Int × Nat) (k : Bool) (h : st.2.2 ≠ 0) : istep l st k = st := by rw [istep, if_neg h]
theorem fold_bad (l : List UInt8) (st : List It × Int × Nat) (h : st.2.2 ≠ 0) : ∀ ks : List Bool, ks.foldl (istep l) st = st
  | [] => rfl
  | k :: ks => by rw [List.foldl_cons, istep_bad l st k h, fold_bad l st h ks]
/-- the place and the error, one thing more: what the closure keeps -/
theorem istep_keeps (l : List UInt8) (st : List It × Int × Nat) (k : Bool) (h : st.2.2 = 0) : (istep l st k).2 = (((iget k l st.2.1).2.1 : Int), (iget k l st.2.1).2.2) := by
  rw [istep, if_pos h]
  by_cases h2 : (iget k l st.2.1).2.2 = 0
  · rw [if_pos h2, h2]
  · rw [if_neg h2, iget_err k l _ h2]; rfl
theorem igets_more (ks js : List Bool) (l : List UInt8) (a : Int) (h : (igets ks l a).2.2 ≠ 0) : igets (ks ++ js) l a = igets ks l a := by
  rw [igets, List.foldl_append]; exact fold_bad l _ h js
theorem istep_list (l : List UInt8) (st : List It × Int × Nat) (k : Bool) (h : (istep l st k).2.2 = 0) : st.2.2 = 0 ∧ (iget k l st.2.1).2.2 = 0 ∧ (istep l st k).1 = st.1 ++ [(iget k l st.2.1).1] := by
  unfold istep at h ⊢
  by_cases h1 : st.2.2 = 0
  · rw [if_pos h1] at h ⊢
    by_cases h2 : (iget k l st.2.1).2.2 = 0
    · rw [if_pos h2]; exact ⟨h1, h2, rfl⟩
    · rw [if_neg h2] at h; exact absurd h h2
  · rw [if_neg h1] at h; exact absurd h h1
theorem fold_bad_list (l : List UInt8) : ∀ (ks : List Bool) (st : List It × Int × Nat), (st.2.2 ≠ 0 → st.1 = [] ∧ st.2.1 = 0) → (ks.foldl (istep l) st).2.2 ≠ 0 → (ks.foldl (istep l) st).1 = [] ∧ (ks.foldl (istep l) st).2.1 = 0
  | [], _, h, h2 => h h2
  | k :: ks, st, h, h2 => by
    rw [List.foldl_cons] at h2 ⊢
    refine fold_bad_list l ks _ (fun hb => ?_) h2
    unfold istep at hb ⊢
    by_cases h1 : st.2.2 = 0
    · rw [if_pos h1] at hb ⊢
      by_cases h3 : (iget k l st.2.1).2.2 = 0
      · rw [if_pos h3] at hb; exact absurd rfl hb
      · rw [if_neg h3]; exact ⟨rfl, rfl⟩
    · rw [if_neg h1] at hb ⊢; exact h h1
theorem igets_bad (ks : List Bool) (l : List UInt8) (a : Int) (h : (igets ks l a).2.2 ≠ 0) : (igets ks l a).1 = [] ∧ (igets ks l a).2.1 = 0 := fold_bad_list l ks _ (fun h => absurd rfl h) h
theorem igets_le (l : List UInt8) (a : Int) (h : -9223372036854775808 ≤ a ∧ a ≤ 9223372036854775807) (hl : l.length ≤ 9223372036854775807) (ks : List Bool) :
    -9223372036854775808 ≤ (igets ks l a).2.1 ∧ (igets ks l a).2.1 ≤ 9223372036854775807 ∧ (igets ks l a).2.2 ≤ 4 := by
  have key : ∀ (ks : List Bool) (st : List It × Int × Nat), (-9223372036854775808 ≤ st.2.1 ∧ st.2.1 ≤ 9223372036854775807 ∧ st.2.2 ≤ 4) → (-9223372036854775808 ≤ (ks.foldl (istep l) st).2.1 ∧ (ks.foldl (istep l) st).2.1 ≤ 9223372036854775807 ∧ (ks.foldl (istep l) st).2.2 ≤ 4) := by
    intro ks
    induction ks with
    | nil => exact fun st h => h
    | cons k ks ih =>
      intro st hst
      rw [List.foldl_cons]
      refine ih _ ?_
      by_cases h1 : st.2.2 = 0
      · have h2 := istep_keeps l st k h1
        have h3 := iget_le k l st.2.1
        rw [h2]
        exact ⟨by simp only; omega, by simp only; omega, h3.2⟩
      · rw [istep_bad l st k h1]; exact hst
  exact key ks _ ⟨h.1, h.2, Nat.zero_le _⟩

theorem igets_pos (l : List UInt8) (a : Int) (h : (igets kinds5 l a).2.2 = 0) : 0 ≤ (igets kinds5 l a).2.1 := by
  have e : igets kinds5 l a = istep l (igets [true, true, true, false] l a) false := igets_snoc [true, true, true, false] false l a
  rw [e] at h ⊢
  rw [istep_keeps l _ false (istep_list l _ false h).1]
  exact Int.natCast_nonneg _
theorem fold_put : ∀ (xs ys : List It) (p t : List UInt8), (∀ x ∈ xs, fits x) → (xs.map It.kind).foldl (istep (p ++ (xs.flatMap iput ++ t))) (ys, p.length, 0) = (ys ++ xs, ((p.length + (xs.flatMap iput).length : Nat) : Int), 0)
  | [], ys, p, t, _ => by simp
  | x :: xs, ys, p, t, h => by
    have hx := iget_put p (xs.flatMap iput ++ t) x (h x (by simp))
    rw [List.map_cons, List.foldl_cons, List.flatMap_cons, List.append_assoc, istep_ok _ _ _ _ _ _ hx]
    have := fold_put xs (ys ++ [x]) (p ++ iput x) t (fun y hy => h y (by simp [hy]))
    rw [List.length_append, List.append_assoc] at this
    rw [this]
    simp [Nat.add_assoc]
theorem fold_cut : ∀ (xs ys : List It) (p : List UInt8) (j : Nat), (∀ x ∈ xs, fits x) → j < (xs.flatMap iput).length → ((xs.map It.kind).foldl (istep (p ++ (xs.flatMap iput).take j)) (ys, p.length, 0)).2.2 = 3
  | [], _, _, j, _, hj => by simp at hj
  | x :: xs, ys, p, j, h, hj => by
    rw [List.flatMap_cons] at hj ⊢
    rw [List.map_cons, List.foldl_cons]
    by_cases hlt : j < (iput x).length
    · have hc := iget_cut p x j (h x (by simp)) hlt
      rw [List.take_append_of_le_length (by omega)]
      have hs : (istep (p ++ (iput x).take j) (ys, (p.length : Int), 0) x.kind).2.2 = 3 := by
        have := istep_keeps (p ++ (iput x).take j) (ys, (p.length : Int), 0) x.kind rfl
        rw [this]; exact hc
      rw [fold_bad _ _ (by rw [hs]; decide)]
      exact hs
    · rw [List.take_append, List.take_of_length_le (by omega)]
      have hx := iget_put p ((xs.flatMap iput).take (j - (iput x).length)) x (h x (by simp))
      rw [istep_ok _ _ _ _ _ _ hx]
      have := fold_cut xs (ys ++ [x]) (p ++ iput x) (j - (iput x).length) (fun y hy => h y (by simp [hy])) (by rw [List.length_append] at hj; omega)
      rw [List.length_append, List.append_assoc] at this
      exact this
theorem fold_got (l : List UInt8) : ∀ (ks : List Bool) (ys zs : List It) (a : Nat) (t : Int), a ≤ l.length → ks.foldl (istep l) (ys, (a : Int), 0) = (zs, t, 0) →
    ∃ (xs : List It) (t' : Nat), zs = ys ++ xs ∧ t = t' ∧ a ≤ t' ∧ t' ≤ l.length ∧ xs.map It.kind = ks ∧ (∀ x ∈ xs, fits x) ∧ xs.flatMap iput = (l.drop a).take (t' - a)
  | [], ys, zs, a, t, ha, h => by
    simp only [List.foldl_nil, Prod.mk.injEq, and_true] at h
    obtain ⟨rfl, rfl⟩ := h
    exact ⟨[], a, by simp, rfl, Nat.le_refl _, ha, rfl, by simp, by simp⟩
  | k :: ks, ys, zs, a, t, ha, h => by
    rw [List.foldl_cons] at h
    by_cases h0 : (iget k l (a : Int)).2.2 = 0
    · have hk : iget k l (a : Int) = ((iget k l (a : Int)).1, (iget k l (a : Int)).2.1, 0) := by rw [← h0]
      rw [istep_ok _ _ _ _ _ _ hk] at h
      obtain ⟨g1, g2, g3, g4, g5⟩ := iget_got k l a _ _ hk
      obtain ⟨xs, t', r1, r2, r3, r4, r5, r6, r7⟩ := fold_got l ks _ zs _ t g2 h
      refine ⟨(iget k l (a : Int)).1 :: xs, t', by rw [r1]; simp, r2, by omega, r4, by rw [List.map_cons, g4, r5], ?_, ?_⟩
      · intro x hx
        rcases List.mem_cons.1 hx with rfl | hx
        · exact g3
        · exact r6 x hx
      · rw [List.flatMap_cons, g5, r7, show t' - a = ((iget k l (a : Int)).2.1 - a) + (t' - (iget k l (a : Int)).2.1) by omega, List.take_add, List.drop_drop, show a + ((iget k l (a : Int)).2.1 - a) = (iget k l (a : Int)).2.1 by omega]
    · have hs : (istep l (ys, (a : Int), 0) k).2.2 ≠ 0 := by rw [istep_keeps l _ k rfl]; exact h0
      rw [fold_bad l _ hs] at h
      rw [h] at hs
      exact absurd rfl hs

/-! ### events -/
/-- an event -/
structure E where
  o : Int
  s : Int
  t : ByteArray
  l : ByteArray
  d : Int
def E.zero : E := ⟨0, 0, ⟨#[]⟩, ⟨#[]⟩, 0⟩
/-- may it be? -/
def right (e : E) : Bool := decide (0 ≤ e.o) && decide (e.o ≤ 1099511627776) && (decide (1 ≤ e.s) && decide (e.s ≤ 1099511627776)) && (decide (0 ≤ e.d) && decide (e.d ≤ 1000)) && decide (e.l.size ≤ 64) && Tp.right e.t.data.toList
theorem right_iff (e : E) : right e = true ↔ (0 ≤ e.o ∧ e.o ≤ 1099511627776) ∧ (1 ≤ e.s ∧ e.s ≤ 1099511627776) ∧ (0 ≤ e.d ∧ e.d ≤ 1000) ∧ e.l.size ≤ 64 ∧ Tp.right e.t.data.toList = true := by
  simp [right, and_assoc]
def its (e : E) : List It := [.n e.o.toNat, .n e.s.toNat, .n e.d.toNat, .t e.t.data.toList, .t e.l.data.toList]
abbrev kinds : List Bool := kinds5
def bytes (e : E) : List UInt8 := (its e).flatMap iput
def put (e : E) : List UInt8 := if right e then bytes e else []
def clip (n : Nat) : Nat := min n 1099511627777
/-- the event that things tell -/
def ofIts : List It → E
  | [.n a, .n b, .n c, .t t, .t l] => ⟨clip a, clip b, ⟨t.toArray⟩, ⟨l.toArray⟩, clip c⟩
  | _ => .zero
def get (b : List UInt8) (a : Int) : E × Nat × Nat :=
  if (igets kinds b a).2.2 ≠ 0 then (.zero, 0, (igets kinds b a).2.2) else if right (ofIts (igets kinds b a).1) then (ofIts (igets kinds b a).1, (igets kinds b a).2.1.toNat, 0) else (.zero, 0, 4)

theorem ba_of (s : ByteArray) : (⟨s.data.toList.toArray⟩ : ByteArray) = s := by cases s; simp
theorem its_fits (e : E) (h : right e = true) (ht : e.t.size ≤ 65536) : ∀ x ∈ its e, fits x := by
  rw [right_iff] at h
  intro x hx
  have hl1 := size_len e.t
  have hl2 := size_len e.l
  simp only [its, List.mem_cons, List.not_mem_nil, or_false] at hx
  rcases hx with rfl | rfl | rfl | rfl | rfl <;> simp only [fits] <;> omega
theorem ofIts_its (e : E) (h : right e = true) : ofIts (its e) = e := by
  rw [right_iff] at h
  have hc : ∀ x : Int, 0 ≤ x → x ≤ 1099511627776 → ((clip x.toNat : Nat) : Int) = x := fun x h1 h2 => by unfold clip; omega
  simp only [its, ofIts, ba_of]
  rw [hc _ h.1.1 h.1.2, hc _ (by omega) h.2.1.2, hc _ h.2.2.1.1 (by omega)]
theorem get_put (e : E) (p t : List UInt8) (h : right e = true) (ht : e.t.size ≤ 65536) : get (p ++ (bytes e ++ t)) p.length = (e, p.length + (bytes e).length, 0) := by
  have hf := fold_put (its e) [] p t (its_fits e h ht)
  have hg : igets kinds (p ++ (bytes e ++ t)) p.length = (its e, ((p.length + (bytes e).length : Nat) : Int), 0) := hf
  rw [get, hg]
  simp only
  rw [if_neg (by simp), ofIts_its e h, if_pos h]
  rfl
theorem get_cut (e : E) (j : Nat) (h : right e = true) (ht : e.t.size ≤ 65536) (hj : j < (bytes e).length) : (get ((bytes e).take j) 0).2.2 = 3 := by
  have hf := fold_cut (its e) [] [] j (its_fits e h ht) hj
  have hg : (igets kinds ((bytes e).take j) 0).2.2 = 3 := hf
  rw [get, hg]
  simp
theorem bytes_pos (e : E) : 0 < (bytes e).length := by
  have := Vn.vsz_pos e.o.toNat
  simp only [bytes, its, List.flatMap_cons, List.length_append, iput, Vn.vput_length]
  omega
theorem map_kinds {xs : List It} (h : xs.map It.kind = kinds) : ∃ a b c t l, xs = [.n a, .n b, .n c, .t t, .t l] := by
  match xs, h with
  | [.n a, .n b, .n c, .t t, .t l], _ => exact ⟨a, b, c, t, l, rfl⟩
theorem get_got (b : List UInt8) (e : E) (t : Nat) (h : get b 0 = (e, t, 0)) : right e = true ∧ t ≤ b.length ∧ bytes e = b.take t := by
  unfold get at h
  by_cases h0 : (igets kinds b 0).2.2 = 0
  · rw [if_neg (by simp [h0])] at h
    by_cases h1 : right (ofIts (igets kinds b 0).1) = true
    · rw [if_pos h1] at h
      simp only [Prod.mk.injEq, and_true] at h
      obtain ⟨rfl, rfl⟩ := h
      obtain ⟨xs, t', r1, r2, r3, r4, r5, r6, r7⟩ := fold_got b kinds [] (igets kinds b 0).1 0 (igets kinds b 0).2.1 (Nat.zero_le _) (Prod.ext rfl (Prod.ext rfl h0))
      rw [List.nil_append] at r1
      refine ⟨h1, by omega, ?_⟩
      obtain ⟨x, y, z, u, v, rfl⟩ := map_kinds r5
      rw [r1] at h1 ⊢
      rw [r2, Int.toNat_natCast]
      simp only [Nat.sub_zero, List.drop_zero] at r7
      rw [← r7]
      have hc : ∀ n : Nat, clip n ≤ 1099511627776 → clip n = n := fun n h => by unfold clip at h ⊢; omega
      rw [right_iff] at h1
      simp only [ofIts] at h1
      simp only [bytes, its, ofIts, Int.toNat_natCast]
      rw [hc x (by omega), hc y (by omega), hc z (by omega)]
    · rw [if_neg h1] at h
      simp at h
  · rw [if_pos h0] at h
    simp only [Prod.mk.injEq] at h
    exact absurd h.2.2 h0
theorem get_le (b : List UInt8) (a : Int) : (get b a).2.2 ≤ 4 ∧ ((get b a).2.2 ≠ 0 → (get b a).1 = .zero ∧ (get b a).2.1 = 0) := by
  have key : ∀ (ks : List Bool) (st : List It × Int × Nat), st.2.2 ≤ 4 → (ks.foldl (istep b) st).2.2 ≤ 4 := by
    intro ks
    induction ks with
    | nil => exact fun st h => h
    | cons k ks ih =>
      intro st hst
      rw [List.foldl_cons]
      refine ih _ ?_
      by_cases h1 : st.2.2 = 0
      · rw [istep_keeps b st k h1]; exact (iget_le k b st.2.1).2
      · rw [istep_bad b st k h1]; exact hst
  have hk := key kinds ([], a, 0) (Nat.zero_le _)
  unfold get
  split
  · exact ⟨hk, fun _ => ⟨rfl, rfl⟩⟩
  · split
    · exact ⟨by simp, fun h => absurd rfl h⟩
    · exact ⟨by simp, fun _ => ⟨rfl, rfl⟩⟩
def age (e : E) (n : Int) : E := if n ≤ 0 then e else if e.d ≤ n then { e with d := 0 } else { e with d := e.d - n }
def same (a b : E) : Bool := decide (a.o = b.o) && decide (a.s = b.s) && decide (a.t = b.t) && decide (a.l = b.l)

/-! ### marks -/
structure M where
  o : Int
  s : Int
def srt (lo : Int) : List M → Bool
  | [] => true
  | m :: r => (decide (lo ≤ m.o) && decide (m.o ≤ 1099511627776)) && (decide (1 ≤ m.s) && decide (m.s ≤ 1099511627776)) && srt (m.o + 1) r
def sorted (l : List M) : Bool := decide (l.length ≤ 32) && srt 0 l
def mits (l : List M) : List It := l.flatMap fun m => [.n m.o.toNat, .n m.s.toNat]
def mbytes (l : List M) : List UInt8 := Vn.vput l.length ++ (mits l).flatMap iput
def mput (l : List M) : List UInt8 := if sorted l then mbytes l else []
def ofPairs : List It → List M
  | .n a :: .n b :: r => ⟨clip a, clip b⟩ :: ofPairs r
  | _ => []
def mcut (b : List UInt8) (a : Int) : List M × Nat × Nat :=
  if (vget b a).2.2 ≠ 0 then ([], 0, (vget b a).2.2) else if 32 < (vget b a).1 then ([], 0, 2) else
  if (igets (List.replicate (2 * (vget b a).1) true) b (vget b a).2.1).2.2 ≠ 0 then ([], 0, (igets (List.replicate (2 * (vget b a).1) true) b (vget b a).2.1).2.2) else
  if sorted (ofPairs (igets (List.replicate (2 * (vget b a).1) true) b (vget b a).2.1).1) then (ofPairs (igets (List.replicate (2 * (vget b a).1) true) b (vget b a).2.1).1, (igets (List.replicate (2 * (vget b a).1) true) b (vget b a).2.1).2.1.toNat, 0) else ([], 0, 4)

theorem mits_kinds : ∀ l : List M, (mits l).map It.kind = List.replicate (2 * l.length) true
  | [] => rfl
  | m :: l => by
    have := mits_kinds l
    rw [mits] at this
    rw [mits, List.flatMap_cons, List.map_append, this, List.length_cons, show 2 * (l.length + 1) = 2 * l.length + 1 + 1 by omega, List.replicate_succ, List.replicate_succ]
    rfl
theorem srt_all : ∀ (l : List M) (lo : Int), 0 ≤ lo → srt lo l = true → ∀ m ∈ l, 0 ≤ m.o ∧ m.o ≤ 1099511627776 ∧ 1 ≤ m.s ∧ m.s ≤ 1099511627776
  | [], _, _, _ => by simp
  | m :: l, lo, h0, h => by
    simp only [srt, Bool.and_eq_true, decide_eq_true_eq] at h
    intro x hx
    rcases List.mem_cons.1 hx with rfl | hx
    · omega
    · exact srt_all l (m.o + 1) (by omega) h.2 x hx
theorem mits_fits (l : List M) (h : srt 0 l = true) : ∀ x ∈ mits l, fits x := by
  intro x hx
  simp only [mits, List.mem_flatMap, List.mem_cons, List.not_mem_nil, or_false] at hx
  obtain ⟨m, hm, hx⟩ := hx
  have := srt_all l 0 (Int.le_refl _) h m hm
  rcases hx with rfl | rfl <;> simp only [fits] <;> omega
theorem ofPairs_mits : ∀ (l : List M) , (∀ m ∈ l, 0 ≤ m.o ∧ m.o ≤ 1099511627776 ∧ 1 ≤ m.s ∧ m.s ≤ 1099511627776) → ofPairs (mits l) = l
  | [], _ => rfl
  | m :: l, h => by
    have ih := ofPairs_mits l (fun x hx => h x (by simp [hx]))
    have hm := h m (by simp)
    rw [mits] at ih ⊢
    rw [List.flatMap_cons]
    simp only [List.cons_append, List.nil_append, ofPairs, ih]
    have e1 : ((clip m.o.toNat : Nat) : Int) = m.o := by unfold clip; omega
    have e2 : ((clip m.s.toNat : Nat) : Int) = m.s := by unfold clip; omega
    rw [e1, e2]
theorem sorted_iff (l : List M) : sorted l = true ↔ l.length ≤ 32 ∧ srt 0 l = true := by simp [sorted]
theorem mcut_put (l : List M) (p t : List UInt8) (h : sorted l = true) : mcut (p ++ (mbytes l ++ t)) p.length = (l, p.length + (mbytes l).length, 0) := by
  have h' := (sorted_iff l).1 h
  have hf := fold_put (mits l) [] (p ++ Vn.vput l.length) t (mits_fits l h'.2)
  rw [mits_kinds] at hf
  have hv := vget_put p ((mits l).flatMap iput ++ t) l.length (by omega)
  have hb : p ++ (mbytes l ++ t) = p ++ (Vn.vput l.length ++ ((mits l).flatMap iput ++ t)) := by rw [mbytes, List.append_assoc]
  rw [← Vn.vput_length, ← List.length_append] at hv
  rw [← List.append_assoc] at hv
  have hb2 : p ++ (mbytes l ++ t) = (p ++ Vn.vput l.length) ++ ((mits l).flatMap iput ++ t) := by rw [hb, List.append_assoc]
  rw [hb2]
  have hg : igets (List.replicate (2 * l.length) true) ((p ++ Vn.vput l.length) ++ ((mits l).flatMap iput ++ t)) (((p ++ Vn.vput l.length).length : Nat) : Int) = (mits l, (((p ++ Vn.vput l.length).length + ((mits l).flatMap iput).length : Nat) : Int), 0) := hf
  unfold mcut
  rw [hv]
  simp only
  rw [hg]
  simp only
  rw [if_neg (by simp), if_neg (by omega), if_neg (by simp), ofPairs_mits l (srt_all l 0 (Int.le_refl _) h'.2), if_pos h]
  rw [Int.toNat_natCast, mbytes, List.length_append, List.length_append, Nat.add_assoc]
theorem mcut_cut (l : List M) (j : Nat) (h : sorted l = true) (hj : j < (mbytes l).length) : (mcut ((mbytes l).take j) 0).2.2 = 3 := by
  have h' := (sorted_iff l).1 h
  have hp := Vn.vput_length l.length
  by_cases hlt : j < Vn.vsz l.length
  · have hc := vget_cut l.length j (by omega) hlt
    unfold mcut
    rw [mbytes, List.take_append_of_le_length (by omega), hc]
    simp
  · have hf := fold_cut (mits l) [] (Vn.vput l.length) (j - Vn.vsz l.length) (mits_fits l h'.2) (by rw [mbytes, List.length_append] at hj; omega)
    rw [mits_kinds] at hf
    have hv := vget_put [] (((mits l).flatMap iput).take (j - Vn.vsz l.length)) l.length (by omega)
    simp only [List.nil_append, List.length_nil, Nat.zero_add] at hv
    have hb : (mbytes l).take j = Vn.vput l.length ++ ((mits l).flatMap iput).take (j - Vn.vsz l.length) := by
      rw [mbytes, List.take_append, List.take_of_length_le (by omega), hp]
    rw [hb]
    unfold mcut
    rw [show (0 : Int) = ((0 : Nat) : Int) from rfl, hv]
    simp only
    rw [← hp, hp] at hf ⊢
    have hg : (igets (List.replicate (2 * l.length) true) (Vn.vput l.length ++ ((mits l).flatMap iput).take (j - Vn.vsz l.length)) ((Vn.vsz l.length : Nat) : Int)).2.2 = 3 := hf
    rw [hg, if_neg (by simp), if_neg (by omega), if_pos (by decide)]
theorem mbytes_pos (l : List M) : 0 < (mbytes l).length := by
  have := Vn.vsz_pos l.length
  simp only [mbytes, List.length_append, Vn.vput_length]
  omega
theorem ofPairs_got : ∀ (n : Nat) (xs : List It), xs.map It.kind = List.replicate (2 * n) true → (ofPairs xs).length = n ∧ ((∀ m ∈ ofPairs xs, m.o ≤ 1099511627776 ∧ m.s ≤ 1099511627776) → mits (ofPairs xs) = xs)
  | 0, xs, h => by
    have : xs = [] := by simpa using h
    subst this
    exact ⟨rfl, fun _ => rfl⟩
  | n + 1, xs, h => by
    rw [show 2 * (n + 1) = 2 * n + 1 + 1 by omega, List.replicate_succ, List.replicate_succ] at h
    match xs, h with
    | .n a :: .n b :: r, h =>
      simp only [List.map_cons, List.cons.injEq] at h
      obtain ⟨r1, r2⟩ := ofPairs_got n r h.2.2
      refine ⟨by simp [ofPairs, r1], fun hm => ?_⟩
      have h1 := hm _ (by rw [ofPairs]; exact List.mem_cons_self ..)
      have ih := r2 (fun x hx => hm x (by rw [ofPairs]; exact List.mem_cons_of_mem _ hx))
      rw [mits] at ih
      simp only [ofPairs, mits, List.flatMap_cons, ih, Int.toNat_natCast]
      simp only at h1
      have e1 : clip a = a := by unfold clip at h1 ⊢; omega
      have e2 : clip b = b := by unfold clip at h1 ⊢; omega
      rw [e1, e2]; rfl
theorem mcut_got (b : List UInt8) (l : List M) (t : Nat) (h : mcut b 0 = (l, t, 0)) : sorted l = true ∧ t ≤ b.length ∧ mbytes l = b.take t := by
  unfold mcut at h
  by_cases h0 : (vget b 0).2.2 = 0
  · rw [if_neg (by simp [h0])] at h
    by_cases h1 : 32 < (vget b 0).1
    · rw [if_pos h1] at h; simp at h
    rw [if_neg h1] at h
    have hv : vget b 0 = ((vget b 0).1, (vget b 0).2.1, 0) := by rw [← h0]
    generalize (vget b 0).1 = n at h h1 hv
    generalize (vget b 0).2.1 = q at h hv
    by_cases h2 : (igets (List.replicate (2 * n) true) b q).2.2 = 0
    · rw [if_neg (by simp [h2])] at h
      obtain ⟨g1, g2, g3, g4⟩ := vget_got b 0 n q hv
      obtain ⟨xs, t', r1, r2, r3, r4, r5, r6, r7⟩ := fold_got b (List.replicate (2 * n) true) [] (igets (List.replicate (2 * n) true) b q).1 q (igets (List.replicate (2 * n) true) b q).2.1 g2 (Prod.ext rfl (Prod.ext rfl h2))
      rw [List.nil_append] at r1
      rw [r1, r2] at h
      by_cases h3 : sorted (ofPairs xs) = true
      · rw [if_pos h3] at h
        simp only [Prod.mk.injEq, and_true, Int.toNat_natCast] at h
        obtain ⟨rfl, rfl⟩ := h
        obtain ⟨q1, q2⟩ := ofPairs_got n xs r5
        have q3 := srt_all _ 0 (Int.le_refl _) ((sorted_iff _).1 h3).2
        refine ⟨h3, r4, ?_⟩
        rw [mbytes, q1, q2 (fun m hm => ⟨(q3 m hm).2.1, (q3 m hm).2.2.2⟩), r7, g4]
        simp only [List.drop_zero, Nat.sub_zero]
        rw [← List.take_add, show q + (t' - q) = t' by omega]
      · rw [if_neg h3] at h; simp at h
    · rw [if_pos h2] at h
      simp only [Prod.mk.injEq] at h
      exact absurd h.2.2 h2
  · rw [if_pos h0] at h
    simp only [Prod.mk.injEq] at h
    exact absurd h.2.2 h0
theorem mcut_le (b : List UInt8) (a : Int) : (mcut b a).2.2 ≤ 4 ∧ ((mcut b a).2.2 ≠ 0 → (mcut b a).1 = [] ∧ (mcut b a).2.1 = 0) ∧ (mcut b a).1.length ≤ 32 := by
  have key : ∀ (ks : List Bool) (st : List It × Int × Nat), st.2.2 ≤ 4 → (ks.foldl (istep b) st).2.2 ≤ 4 := by
    intro ks
    induction ks with
    | nil => exact fun st h => h
    | cons k ks ih =>
      intro st hst
      rw [List.foldl_cons]
      refine ih _ ?_
      by_cases h1 : st.2.2 = 0
      · rw [istep_keeps b st k h1]; exact (iget_le k b st.2.1).2
      · rw [istep_bad b st k h1]; exact hst
  have hk := key (List.replicate (2 * (vget b a).1) true) ([], (vget b a).2.1, 0) (Nat.zero_le _)
  unfold mcut
  split
  · exact ⟨(vget_le b a).2.2, fun _ => ⟨rfl, rfl⟩, by simp⟩
  · split
    · exact ⟨by simp, fun _ => ⟨rfl, rfl⟩, by simp⟩
    · split
      · exact ⟨hk, fun _ => ⟨rfl, rfl⟩, by simp⟩
      · split
        · rename_i h
          exact ⟨by simp, fun h => absurd rfl h, ((sorted_iff _).1 h).1⟩
        · exact ⟨by simp, fun _ => ⟨rfl, rfl⟩, by simp⟩
end Ev
end Go.Proofs.YtlfmpoinjbmjoaaGreatDoor
