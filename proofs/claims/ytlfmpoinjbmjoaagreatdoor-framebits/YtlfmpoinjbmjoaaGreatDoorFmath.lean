/-
  Layer 7's mathematics: frames, their parts, their bytes, and that what is put is got.
-/
import Derived.Test.YtlfmpoinjbmjoaaGreatDoorEmath
import Derived.Test.YtlfmpoinjbmjoaaGreatDoorKmath
namespace Go.Proofs.YtlfmpoinjbmjoaaGreatDoor
namespace Fr

instance : DecidableEq Ev.M := fun a b => decidable_of_iff (a.o = b.o ∧ a.s = b.s) (by cases a; cases b; simp)
instance : DecidableEq Ev.E := fun a b => decidable_of_iff (a.o = b.o ∧ a.s = b.s ∧ a.t = b.t ∧ a.l = b.l ∧ a.d = b.d) (by cases a; cases b; simp)
/-- a frame -/
structure F where
  k : Int
  ep : Int
  sq : Int
  cr : Int
  on : Bool
  fl : ByteArray
  e : Ev.E
  ms : List Ev.M
instance : DecidableEq F := fun a b => decidable_of_iff (a.k = b.k ∧ a.ep = b.ep ∧ a.sq = b.sq ∧ a.cr = b.cr ∧ a.on = b.on ∧ a.fl = b.fl ∧ a.e = b.e ∧ a.ms = b.ms) (by cases a; cases b; simp)
def F.zero : F := ⟨0, 0, 0, 0, false, ⟨#[]⟩, .zero, []⟩
def same (a b : F) : Bool := decide (a = b)
/-- a part of a frame -/
inductive P where
  | ep
  | sq (least : Int)
  | cr
  | ms
  | ev
  | on
  | fl
def p1 : List P := [.ep, .ms]
def p2 : List P := [.ep, .sq 1, .ms]
def p3 : List P := [.ep, .sq 1, .ev]
def p4 : List P := [.ep, .sq 0, .cr]
def p5 : List P := [.ep]
def p6 : List P := [.ep, .on, .fl]
/-- what a kind has -/
def has (k : Int) : Option (List P) := if k = 1 then some p1 else if k = 2 then some p2 else if k = 3 then some p3 else if k = 4 then some p4 else if k = 5 then some p5 else if k = 6 then some p6 else none
def parts (k : Int) : List P := (has k).getD []
def P.right : P → F → Bool
  | .ep, f => decide (1 ≤ f.ep ∧ f.ep ≤ 1099511627776)
  | .sq n, f => decide (n ≤ f.sq ∧ f.sq ≤ 1099511627776)
  | .cr, f => decide (0 ≤ f.cr ∧ f.cr ≤ 64)
  | .ms, f => Ev.sorted f.ms
  | .ev, f => Ev.right f.e
  | .on, _ => true
  | .fl, f => Tp.filter f.fl.data.toList
def P.put : P → F → List UInt8
  | .ep, f => Vn.vput f.ep.toNat
  | .sq _, f => Vn.vput f.sq.toNat
  | .cr, f => Vn.vput f.cr.toNat
  | .ms, f => Ev.mput f.ms
  | .ev, f => Ev.put f.e
  | .on, f => if f.on then [1] else [0]
  | .fl, f => Vn.vput f.fl.data.toList.length ++ f.fl.data.toList
def P.drop : P → F → F
  | .ep, f => { f with ep := 0 }
  | .sq _, f => { f with sq := 0 }
  | .cr, f => { f with cr := 0 }
  | .ms, f => { f with ms := [] }
  | .ev, f => { f with e := .zero }
  | .on, f => { f with on := false }
  | .fl, f => { f with fl := ⟨#[]⟩ }
/-- one frame's part laid into another -/
def P.lay : P → F → F → F
  | .ep, s, f => { f with ep := s.ep }
  | .sq _, s, f => { f with sq := s.sq }
  | .cr, s, f => { f with cr := s.cr }
  | .ms, s, f => { f with ms := s.ms }
  | .ev, s, f => { f with e := s.e }
  | .on, s, f => { f with on := s.on }
  | .fl, s, f => { f with fl := s.fl }
def onGet (l : List UInt8) (a : Nat) (f : F) : F × Nat × Nat :=
  match l[a]? with
  | none => (f, 0, 3)
  | some c => if 1 < c.toNat then (f, 0, 4) else ({ f with on := decide (c.toNat = 1) }, a + 1, 0)
theorem onGet_no {l : List UInt8} {a : Nat} {f : F} (h : l[a]? = none) : onGet l a f = (f, 0, 3) := by unfold onGet; rw [h]
theorem onGet_of {l : List UInt8} {a : Nat} {f : F} {c : UInt8} (h : l[a]? = some c) : onGet l a f = if 1 < c.toNat then (f, 0, 4) else ({ f with on := decide (c.toNat = 1) }, a + 1, 0) := by unfold onGet; rw [h]
def P.get : P → List UInt8 → Nat → F → F × Nat × Nat
  | .ep, l, a, f => ({ f with ep := Ev.clip (vget l a).1 }, (vget l a).2)
  | .sq _, l, a, f => ({ f with sq := Ev.clip (vget l a).1 }, (vget l a).2)
  | .cr, l, a, f => ({ f with cr := Ev.clip (vget l a).1 }, (vget l a).2)
  | .ms, l, a, f => ({ f with ms := (Ev.mcut l a).1 }, (Ev.mcut l a).2)
  | .ev, l, a, f => ({ f with e := (Ev.get l a).1 }, (Ev.get l a).2)
  | .on, l, a, f => onGet l a f
  | .fl, l, a, f => ({ f with fl := ⟨(vcut l a).1.toArray⟩ }, (vcut l a).2)
def allows (ps : List P) (f : F) : Bool := ps.all (fun p => p.right f) && same (ps.foldl (fun g p => p.drop g) { f with k := 0 }) .zero
/-- may it be? -/
def right (f : F) : Bool := (has f.k).isSome && allows (parts f.k) f
def inner (f : F) : List UInt8 := Vn.vput f.k.toNat ++ (parts f.k).flatMap (fun p => p.put f)
def put (f : F) : List UInt8 := if right f then Ck.seal_ (inner f) else []
def step (l : List UInt8) (st : F × Nat × Nat) (p : P) : F × Nat × Nat := if st.2.2 = 0 then p.get l st.2.1 st.1 else st
def gets (ps : List P) (l : List UInt8) (st : F × Nat × Nat) : F × Nat × Nat := ps.foldl (step l) st
def kindOf (n : Nat) : Int := min n 7
def made (k : Int) : F := { F.zero with k := k }
/-- the frame that inner bytes are -/
def read (l : List UInt8) : F × Nat :=
  if (vget l 0).2.2 ≠ 0 then (.zero, (vget l 0).2.2) else
  if (has (kindOf (vget l 0).1)).isSome then
    if (gets (parts (kindOf (vget l 0).1)) l (made (kindOf (vget l 0).1), (vget l 0).2.1, 0)).2.2 ≠ 0 then (.zero, (gets (parts (kindOf (vget l 0).1)) l (made (kindOf (vget l 0).1), (vget l 0).2.1, 0)).2.2) else
    if (gets (parts (kindOf (vget l 0).1)) l (made (kindOf (vget l 0).1), (vget l 0).2.1, 0)).2.1 < l.length then (.zero, 4) else
    if allows (parts (kindOf (vget l 0).1)) (gets (parts (kindOf (vget l 0).1)) l (made (kindOf (vget l 0).1), (vget l 0).2.1, 0)).1 then ((gets (parts (kindOf (vget l 0).1)) l (made (kindOf (vget l 0).1), (vget l 0).2.1, 0)).1, 0) else (.zero, 4)
  else (.zero, 6)
def get (l : List UInt8) : F × Nat :=
  if 4096 < l.length then (.zero, 2) else if (Ck.open_ l 0).2.2 ≠ 0 then (.zero, (Ck.open_ l 0).2.2) else if (Ck.open_ l 0).2.1 < l.length then (.zero, 4) else read (Ck.open_ l 0).1

theorem has_cases (k : Int) : (k = 1 ∧ has k = some p1 ∧ parts k = p1) ∨ (k = 2 ∧ has k = some p2 ∧ parts k = p2) ∨ (k = 3 ∧ has k = some p3 ∧ parts k = p3) ∨ (k = 4 ∧ has k = some p4 ∧ parts k = p4) ∨ (k = 5 ∧ has k = some p5 ∧ parts k = p5) ∨ (k = 6 ∧ has k = some p6 ∧ parts k = p6) ∨ ((k < 1 ∨ 6 < k) ∧ has k = none ∧ parts k = []) := by
  by_cases h1 : k = 1
  · subst h1; left; exact ⟨rfl, rfl, rfl⟩
  by_cases h2 : k = 2
  · subst h2; right; left; exact ⟨rfl, rfl, rfl⟩
  by_cases h3 : k = 3
  · subst h3; right; right; left; exact ⟨rfl, rfl, rfl⟩
  by_cases h4 : k = 4
  · subst h4; right; right; right; left; exact ⟨rfl, rfl, rfl⟩
  by_cases h5 : k = 5
  · subst h5; right; right; right; right; left; exact ⟨rfl, rfl, rfl⟩
  by_cases h6 : k = 6
  · subst h6; right; right; right; right; right; left; exact ⟨rfl, rfl, rfl⟩
  · have hn : has k = none := by unfold has; rw [if_neg h1, if_neg h2, if_neg h3, if_neg h4, if_neg h5, if_neg h6]
    refine .inr (.inr (.inr (.inr (.inr (.inr ⟨by omega, hn, by rw [parts, hn]; rfl⟩)))))
theorem right_kind (f : F) (h : right f = true) : 1 ≤ f.k ∧ f.k ≤ 6 := by
  rcases has_cases f.k with ⟨e, _⟩ | ⟨e, _⟩ | ⟨e, _⟩ | ⟨e, _⟩ | ⟨e, _⟩ | ⟨e, _⟩ | ⟨e, n, _⟩
  all_goals first | omega | (rw [right, n] at h; simp at h)
theorem right_parts (f : F) (h : right f = true) : (parts f.k).all (fun p => p.right f) = true ∧ (parts f.k).foldl (fun g p => p.drop g) { f with k := 0 } = .zero := by
  rw [right, allows] at h
  simp only [Bool.and_eq_true, same, decide_eq_true_eq] at h
  exact h.2
/-- what may be is its parts alone -/
theorem lay_all (f : F) (h : right f = true) : (parts f.k).foldl (fun g p => p.lay f g) (made f.k) = f := by
  obtain ⟨_, h2⟩ := right_parts f h
  obtain ⟨k, ep, sq, cr, on, fl, e, ms⟩ := f
  simp only at h h2 ⊢
  rcases has_cases k with ⟨e, _, n⟩ | ⟨e, _, n⟩ | ⟨e, _, n⟩ | ⟨e, _, n⟩ | ⟨e, _, n⟩ | ⟨e, _, n⟩ | ⟨e, m, n⟩
  · rw [n] at h2 ⊢
    simp only [p1, List.foldl_cons, List.foldl_nil, P.drop, F.zero, F.mk.injEq] at h2
    simp [p1, P.lay, made, F.zero, h2]
  · rw [n] at h2 ⊢
    simp only [p2, List.foldl_cons, List.foldl_nil, P.drop, F.zero, F.mk.injEq] at h2
    simp [p2, P.lay, made, F.zero, h2]
  · rw [n] at h2 ⊢
    simp only [p3, List.foldl_cons, List.foldl_nil, P.drop, F.zero, F.mk.injEq] at h2
    simp [p3, P.lay, made, F.zero, h2]
  · rw [n] at h2 ⊢
    simp only [p4, List.foldl_cons, List.foldl_nil, P.drop, F.zero, F.mk.injEq] at h2
    simp [p4, P.lay, made, F.zero, h2]
  · rw [n] at h2 ⊢
    simp only [p5, List.foldl_cons, List.foldl_nil, P.drop, F.zero, F.mk.injEq] at h2
    simp [p5, P.lay, made, F.zero, h2]
  · rw [n] at h2 ⊢
    simp only [p6, List.foldl_cons, List.foldl_nil, P.drop, F.zero, F.mk.injEq] at h2
    simp [p6, P.lay, made, F.zero, h2]
  · rw [right, m] at h; simp at h

/-! ### what is put is got -/
theorem clip_nat (x : Int) (h1 : 0 ≤ x) (h2 : x ≤ 1099511627776) : ((Ev.clip x.toNat : Nat) : Int) = x := by unfold Ev.clip; omega
theorem get_put1 (p : P) (f g : F) (a t : List UInt8) (h : p.right f = true) (h0 : ∀ n, p = .sq n → 0 ≤ n) (ht : f.e.t.size ≤ 65536) (hf : f.fl.size ≤ 65536) :
    p.get (a ++ (p.put f ++ t)) a.length g = (p.lay f g, a.length + (p.put f).length, 0) := by
  cases p with
  | ep =>
    simp only [P.right, decide_eq_true_eq] at h
    simp only [P.get, P.put, P.lay, vget_put a t f.ep.toNat (by omega), clip_nat f.ep (by omega) h.2, Vn.vput_length]
  | sq n =>
    have := h0 n rfl
    simp only [P.right, decide_eq_true_eq] at h
    simp only [P.get, P.put, P.lay, vget_put a t f.sq.toNat (by omega), clip_nat f.sq (by omega) h.2, Vn.vput_length]
  | cr =>
    simp only [P.right, decide_eq_true_eq] at h
    simp only [P.get, P.put, P.lay, vget_put a t f.cr.toNat (by omega), clip_nat f.cr (by omega) (by omega), Vn.vput_length]
  | ms =>
    simp only [P.right] at h
    simp only [P.get, P.put, P.lay, Ev.mput, if_pos h, Ev.mcut_put f.ms a t h]
  | ev =>
    simp only [P.right] at h
    simp only [P.get, P.put, P.lay, Ev.put, if_pos h, Ev.get_put f.e a t h ht]
  | on =>
    simp only [P.get, P.put, P.lay, onGet]
    cases f.on <;> simp
  | fl =>
    have hl := size_len f.fl
    simp only [P.get, P.put, P.lay, vcut_text a f.fl.data.toList t (by omega), Ev.ba_of, List.length_append, Vn.vput_length, Nat.add_assoc]
theorem gets_put (f : F) (ht : f.e.t.size ≤ 65536) (hf : f.fl.size ≤ 65536) : ∀ (ps : List P) (g : F) (a t : List UInt8), ps.all (fun p => p.right f) = true → (∀ n, P.sq n ∈ ps → 0 ≤ n) →
    gets ps (a ++ (ps.flatMap (fun p => p.put f) ++ t)) (g, a.length, 0) = (ps.foldl (fun g p => p.lay f g) g, a.length + (ps.flatMap (fun p => p.put f)).length, 0)
  | [], g, a, t, _, _ => by simp [gets]
  | p :: ps, g, a, t, h, h0 => by
    simp only [List.all_cons, Bool.and_eq_true] at h
    have h1 := get_put1 p f g a (ps.flatMap (fun p => p.put f) ++ t) h.1 (fun n e => h0 n (by simp [e])) ht hf
    have ih := gets_put f ht hf ps (p.lay f g) (a ++ p.put f) t h.2 (fun n e => h0 n (by simp [e]))
    simp only [List.append_assoc, List.length_append] at ih
    rw [gets, List.foldl_cons, List.flatMap_cons, List.append_assoc, step, if_pos rfl]
    simp only
    rw [h1]
    rw [gets] at ih
    rw [ih, List.length_append, Nat.add_assoc]
    rfl
theorem parts_sq (k : Int) : ∀ n, P.sq n ∈ parts k → 0 ≤ n := by
  intro n hn
  rcases has_cases k with ⟨_, _, e⟩ | ⟨_, _, e⟩ | ⟨_, _, e⟩ | ⟨_, _, e⟩ | ⟨_, _, e⟩ | ⟨_, _, e⟩ | ⟨_, _, e⟩ <;> rw [e] at hn <;> simp [p1, p2, p3, p4, p5, p6] at hn <;> omega
theorem read_put (f : F) (h : right f = true) (ht : f.e.t.size ≤ 65536) (hf : f.fl.size ≤ 65536) : read (inner f) = (f, 0) := by
  have hk := right_kind f h
  have hv := vget_put [] ((parts f.k).flatMap (fun p => p.put f)) f.k.toNat (by omega)
  simp only [List.nil_append, List.length_nil, Nat.zero_add] at hv
  have hg := gets_put f ht hf (parts f.k) (made f.k) (Vn.vput f.k.toNat) [] (right_parts f h).1 (parts_sq f.k)
  rw [List.append_nil, lay_all f h, Vn.vput_length] at hg
  have hkk : kindOf f.k.toNat = f.k := by unfold kindOf; omega
  have hr := h
  rw [right, Bool.and_eq_true] at hr
  have hv' : vget (inner f) 0 = (f.k.toNat, Vn.vsz f.k.toNat, 0) := hv
  have hg' : gets (parts f.k) (inner f) (made f.k, Vn.vsz f.k.toNat, 0) = (f, (inner f).length, 0) := by
    rw [inner, hg, List.length_append, Vn.vput_length]
  rw [read, hv']
  simp only
  rw [hkk, hg', hr.1]
  simp only
  rw [if_neg (by simp), if_pos trivial, if_neg (by simp), if_neg (by omega), if_pos hr.2]
theorem get_seal (l : List UInt8) (h : (Ck.seal_ l).length ≤ 4096) : get (Ck.seal_ l) = read l := by
  have hl := Ck.seal_length l
  have ho := Ck.open_seal0 l [] (by omega)
  rw [List.append_nil] at ho
  rw [get, if_neg (by omega), ho]
  simp only
  rw [if_neg (by simp), if_neg (by omega)]
theorem get_put (f : F) (h : right f = true) (ht : f.e.t.size ≤ 65536) (hf : f.fl.size ≤ 65536) (hs : (put f).length ≤ 4096) : get (put f) = (f, 0) := by
  rw [put, if_pos h] at hs ⊢
  rw [get_seal _ hs, read_put f h ht hf]
theorem put_pos (f : F) (h : right f = true) : 5 ≤ (put f).length := by
  rw [put, if_pos h, Ck.seal_length]
  have := Vn.vsz_pos (inner f).length
  omega
theorem mits_len : ∀ l : List Ev.M, ((Ev.mits l).flatMap Ev.iput).length ≤ 18 * l.length
  | [] => by simp [Ev.mits]
  | m :: l => by
    have ih := mits_len l
    have h1 := Vn.vsz_pos m.o.toNat
    have h2 := Vn.vsz_pos m.s.toNat
    simp only [Ev.mits, List.flatMap_cons, List.flatMap_append, List.length_append, List.flatMap_nil, List.length_nil, Ev.iput, Vn.vput_length, List.length_cons] at ih ⊢
    omega
/-- the most bytes of a part -/
def P.top : P → Nat
  | .ep => 9
  | .sq _ => 9
  | .cr => 9
  | .ms => 600
  | .ev => 600
  | .on => 1
  | .fl => 209
theorem put1_len (p : P) (f : F) (h : p.right f = true) (ht : f.e.t.size ≤ 200) (hf : f.fl.size ≤ 200) : (p.put f).length ≤ p.top := by
  cases p with
  | ep => have := Vn.vsz_pos f.ep.toNat; simp only [P.put, Vn.vput_length, P.top]; omega
  | sq n => have := Vn.vsz_pos f.sq.toNat; simp only [P.put, Vn.vput_length, P.top]; omega
  | cr => have := Vn.vsz_pos f.cr.toNat; simp only [P.put, Vn.vput_length, P.top]; omega
  | ms =>
    simp only [P.right] at h
    have h1 := mits_len f.ms
    have h2 := ((Ev.sorted_iff _).1 h).1
    have h3 := Vn.vsz_pos f.ms.length
    simp only [P.put, Ev.mput, if_pos h, Ev.mbytes, List.length_append, Vn.vput_length, P.top]
    omega
  | ev =>
    simp only [P.right] at h
    have h1 := (Ev.right_iff _).1 h
    have hl1 := size_len f.e.t
    have hl2 := size_len f.e.l
    have z1 := Vn.vsz_pos f.e.o.toNat
    have z2 := Vn.vsz_pos f.e.s.toNat
    have z3 := Vn.vsz_pos f.e.d.toNat
    have z4 := Vn.vsz_pos f.e.t.data.toList.length
    have z5 := Vn.vsz_pos f.e.l.data.toList.length
    simp only [P.put, Ev.put, if_pos h, Ev.bytes, Ev.its, List.flatMap_cons, List.flatMap_nil, List.length_append, Ev.iput, Vn.vput_length, List.length_nil, P.top]
    omega
  | on => simp only [P.put, P.top]; split <;> simp
  | fl =>
    have hl1 := size_len f.fl
    have z4 := Vn.vsz_pos f.fl.data.toList.length
    simp only [P.put, List.length_append, Vn.vput_length, P.top]
    omega
theorem puts_len (f : F) (ht : f.e.t.size ≤ 200) (hf : f.fl.size ≤ 200) : ∀ ps : List P, ps.all (fun p => p.right f) = true → (ps.flatMap (fun p => p.put f)).length ≤ (ps.map P.top).sum
  | [], _ => by simp
  | p :: ps, h => by
    simp only [List.all_cons, Bool.and_eq_true] at h
    have h1 := put1_len p f h.1 ht hf
    have ih := puts_len f ht hf ps h.2
    simp only [List.flatMap_cons, List.length_append, List.map_cons, List.sum_cons]
    omega
theorem inner_len (f : F) (h : right f = true) (ht : f.e.t.size ≤ 200) (hf : f.fl.size ≤ 200) : (inner f).length ≤ 700 := by
  have h1 := puts_len f ht hf (parts f.k) (right_parts f h).1
  have hz := Vn.vsz_pos f.k.toNat
  have h2 : ((parts f.k).map P.top).sum ≤ 650 := by
    rcases has_cases f.k with ⟨_, _, e⟩ | ⟨_, _, e⟩ | ⟨_, _, e⟩ | ⟨_, _, e⟩ | ⟨_, _, e⟩ | ⟨_, _, e⟩ | ⟨_, _, e⟩ <;> rw [e] <;> simp [p1, p2, p3, p4, p5, p6, P.top]
  rw [inner, List.length_append, Vn.vput_length]
  omega
theorem put_len (f : F) (ht : f.e.t.size ≤ 200) (hf : f.fl.size ≤ 200) : (put f).length ≤ 720 := by
  by_cases h : right f = true
  · have h1 := inner_len f h ht hf
    have h2 := Vn.vsz_pos (inner f).length
    rw [put, if_pos h, Ck.seal_length]
    omega
  · rw [put, if_neg h]; simp

/-! ### what is got, put, is these bytes -/
theorem mcut_got_at (b : List UInt8) (a : Nat) (l : List Ev.M) (t : Nat) (h : Ev.mcut b a = (l, t, 0)) : Ev.sorted l = true ∧ a ≤ t ∧ t ≤ b.length ∧ Ev.mbytes l = (b.drop a).take (t - a) := by
  unfold Ev.mcut at h
  by_cases h0 : (vget b a).2.2 = 0
  · rw [if_neg (by simp [h0])] at h
    by_cases h1 : 32 < (vget b a).1
    · rw [if_pos h1] at h; simp at h
    rw [if_neg h1] at h
    have hv : vget b a = ((vget b a).1, (vget b a).2.1, 0) := by rw [← h0]
    generalize (vget b a).1 = n at h h1 hv
    generalize (vget b a).2.1 = q at h hv
    by_cases h2 : (Ev.igets (List.replicate (2 * n) true) b q).2.2 = 0
    · rw [if_neg (by simp [h2])] at h
      obtain ⟨g1, g2, g3, g4⟩ := Ev.vget_got b a n q hv
      obtain ⟨xs, t', r1, r2, r3, r4, r5, r6, r7⟩ := Ev.fold_got b (List.replicate (2 * n) true) [] (Ev.igets (List.replicate (2 * n) true) b q).1 q (Ev.igets (List.replicate (2 * n) true) b q).2.1 g2 (Prod.ext rfl (Prod.ext rfl h2))
      rw [List.nil_append] at r1
      rw [r1, r2] at h
      by_cases h3 : Ev.sorted (Ev.ofPairs xs) = true
      · rw [if_pos h3] at h
        simp only [Prod.mk.injEq, and_true, Int.toNat_natCast] at h
        obtain ⟨rfl, rfl⟩ := h
        obtain ⟨q1, q2⟩ := Ev.ofPairs_got n xs r5
        have q3 := Ev.srt_all _ 0 (Int.le_refl _) ((Ev.sorted_iff _).1 h3).2
        refine ⟨h3, by omega, r4, ?_⟩
        rw [Ev.mbytes, q1, q2 (fun m hm => ⟨(q3 m hm).2.1, (q3 m hm).2.2.2⟩), r7, g4, show t' - a = (q - a) + (t' - q) by omega, List.take_add, List.drop_drop, show a + (q - a) = q by omega]
      · rw [if_neg h3] at h; simp at h
    · rw [if_pos h2] at h
      simp only [Prod.mk.injEq] at h
      exact absurd h.2.2 h2
  · rw [if_pos h0] at h
    simp only [Prod.mk.injEq] at h
    exact absurd h.2.2 h0
theorem evget_got_at (b : List UInt8) (a : Nat) (ha : a ≤ b.length) (e : Ev.E) (t : Nat) (h : Ev.get b a = (e, t, 0)) : Ev.right e = true ∧ a ≤ t ∧ t ≤ b.length ∧ Ev.bytes e = (b.drop a).take (t - a) := by
  have hfold : ∀ zs t', Ev.igets Ev.kinds b a = (zs, t', 0) → _ := fun zs t' hz => Ev.fold_got b Ev.kinds [] zs a t' ha hz
  unfold Ev.get at h
  obtain ⟨⟨zs, q, er⟩, hx⟩ : ∃ x, Ev.igets Ev.kinds b a = x := ⟨_, rfl⟩
  rw [hx] at h
  simp only at h
  by_cases h0 : er = 0
  · subst h0
    rw [if_neg (by simp)] at h
    by_cases h1 : Ev.right (Ev.ofIts zs) = true
    · rw [if_pos h1] at h
      simp only [Prod.mk.injEq, and_true] at h
      obtain ⟨rfl, rfl⟩ := h
      obtain ⟨xs, t', r1, r2, r3, r4, r5, r6, r7⟩ := hfold zs q hx
      rw [List.nil_append] at r1
      refine ⟨h1, by omega, by omega, ?_⟩
      obtain ⟨x, y, z, u, v, rfl⟩ := Ev.map_kinds r5
      rw [r1] at h1 ⊢
      rw [r2, Int.toNat_natCast]
      rw [← r7]
      have hc : ∀ n : Nat, Ev.clip n ≤ 1099511627776 → Ev.clip n = n := fun n h => by unfold Ev.clip at h ⊢; omega
      rw [Ev.right_iff] at h1
      simp only [Ev.ofIts] at h1
      simp only [Ev.bytes, Ev.its, Ev.ofIts, Int.toNat_natCast]
      rw [hc x (by omega), hc y (by omega), hc z (by omega)]
    · rw [if_neg h1] at h
      simp at h
  · rw [if_pos h0] at h
    simp only [Prod.mk.injEq] at h
    exact absurd h.2.2 h0
theorem vcut_got_at (l : List UInt8) (a : Nat) (x : List UInt8) (t : Nat) (h : vcut l a = (x, t, 0)) : a ≤ t ∧ t ≤ l.length ∧ Vn.vput x.length ++ x = (l.drop a).take (t - a) := by
  obtain ⟨g1, g2, _, _, g5⟩ := Ev.iget_got false l a t (.t x) (by rw [Ev.iget_t, h])
  exact ⟨g1, g2, g5⟩
/-- a part of a frame is told by its place in it -/
def P.id : P → Nat
  | .ep => 0
  | .sq _ => 1
  | .cr => 2
  | .ms => 3
  | .ev => 4
  | .on => 5
  | .fl => 6
theorem get_lay (p : P) (l : List UInt8) (a : Nat) (g : F) : (p.get l a g).1 = p.lay (p.get l a g).1 g := by
  cases p with
  | on =>
    simp only [P.get, P.lay, onGet]
    split
    · rfl
    · split <;> rfl
  | _ => rfl
theorem lay_apart (p q : P) (h : p.id ≠ q.id) (s g : F) : p.put (q.lay s g) = p.put g ∧ p.right (q.lay s g) = p.right g := by
  cases p <;> cases q <;> first | exact absurd rfl h | exact ⟨rfl, rfl⟩
theorem lay_k (q : P) (s g : F) : (q.lay s g).k = g.k := by cases q <;> rfl
theorem get_got1 (p : P) (l : List UInt8) (a : Nat) (g : F) (t : Nat) (ha : a ≤ l.length) (h : (p.get l a g).2 = (t, 0)) (hr : p.right (p.get l a g).1 = true) : a ≤ t ∧ t ≤ l.length ∧ p.put (p.get l a g).1 = (l.drop a).take (t - a) := by
  have num : ∀ x : Int, (vget l a).2 = (t, 0) → x = Ev.clip (vget l a).1 → x ≤ 1099511627776 → a ≤ t ∧ t ≤ l.length ∧ Vn.vput x.toNat = (l.drop a).take (t - a) := by
    intro x h hx hle
    obtain ⟨g1, g2, g3, g4⟩ := Ev.vget_got l a (vget l a).1 t (Prod.ext rfl h)
    have hc : x.toNat = (vget l a).1 := by subst hx; unfold Ev.clip at hle ⊢; omega
    exact ⟨g1, g2, by rw [hc, g4]⟩
  cases p with
  | ep => exact num _ h rfl (of_decide_eq_true hr).2
  | sq n => exact num _ h rfl (of_decide_eq_true hr).2
  | cr =>
    have := (of_decide_eq_true hr).2
    exact num _ h rfl (by omega)
  | ms =>
    obtain ⟨g1, g2, g3, g4⟩ := mcut_got_at l a (Ev.mcut l a).1 t (Prod.ext rfl h)
    refine ⟨g2, g3, ?_⟩
    show Ev.mput (Ev.mcut l a).1 = _
    rw [Ev.mput, if_pos g1, g4]
  | ev =>
    have key := evget_got_at l a ha
    simp only [P.get] at h ⊢
    simp only [P.put]
    generalize Ev.get l a = x at h key ⊢
    obtain ⟨e, q⟩ := x
    simp only at h
    subst h
    obtain ⟨g1, g2, g3, g4⟩ := key e t rfl
    refine ⟨g2, g3, ?_⟩
    rw [Ev.put, if_pos g1, g4]
  | on =>
    simp only [P.get] at h ⊢
    cases hc : l[a]? with
    | none => rw [onGet_no hc] at h; simp at h
    | some c =>
      rw [onGet_of hc] at h ⊢
      obtain ⟨hlt, hcc⟩ := List.getElem?_eq_some_iff.1 hc
      by_cases h1 : 1 < c.toNat
      · rw [if_pos h1] at h; simp at h
      rw [if_neg h1] at h ⊢
      simp only [Prod.mk.injEq, and_true] at h
      subst h
      refine ⟨by omega, by omega, ?_⟩
      rw [List.drop_eq_getElem_cons hlt, show a + 1 - a = 1 by omega, hcc]
      simp only [List.take_succ_cons, List.take_zero, P.put]
      by_cases h2 : c.toNat = 1
      · have : c = 1 := UInt8.toNat_inj.1 (by rw [h2]; rfl)
        subst this; rfl
      · have : c = 0 := UInt8.toNat_inj.1 (by show c.toNat = 0; omega)
        subst this; rfl
  | fl =>
    exact vcut_got_at l a (vcut l a).1 t (Prod.ext rfl h)
theorem gets_bad (l : List UInt8) (st : F × Nat × Nat) (h : st.2.2 ≠ 0) : ∀ ps : List P, gets ps l st = st
  | [] => rfl
  | p :: ps => by
    rw [gets, List.foldl_cons, step, if_neg h]
    exact gets_bad l st h ps
theorem gets_cons (p : P) (ps : List P) (l : List UInt8) (g : F) (a : Nat) : gets (p :: ps) l (g, a, 0) = gets ps l (p.get l a g) := rfl
theorem gets_apart (p : P) (l : List UInt8) : ∀ (ps : List P) (st : F × Nat × Nat), (∀ q ∈ ps, p.id ≠ q.id) → p.put (gets ps l st).1 = p.put st.1 ∧ p.right (gets ps l st).1 = p.right st.1
  | [], _, _ => ⟨rfl, rfl⟩
  | q :: ps, st, h => by
    have ih := gets_apart p l ps (step l st q) (fun r hr => h r (by simp [hr]))
    have h1 : p.put (step l st q).1 = p.put st.1 ∧ p.right (step l st q).1 = p.right st.1 := by
      unfold step
      split
      · rw [get_lay]; exact lay_apart p q (h q (by simp)) _ _
      · exact ⟨rfl, rfl⟩
    exact ⟨ih.1.trans h1.1, ih.2.trans h1.2⟩
theorem gets_k (l : List UInt8) : ∀ (ps : List P) (st : F × Nat × Nat), (gets ps l st).1.k = st.1.k
  | [], _ => rfl
  | q :: ps, st => by
    have ih := gets_k l ps (step l st q)
    have h1 : (step l st q).1.k = st.1.k := by
      unfold step
      split
      · rw [get_lay]; exact lay_k q _ _
      · rfl
    exact ih.trans h1
theorem gets_got (l : List UInt8) : ∀ (ps : List P) (g : F) (a : Nat) (h : F) (t : Nat), (ps.map P.id).Nodup → a ≤ l.length → gets ps l (g, a, 0) = (h, t, 0) → ps.all (fun p => p.right h) = true →
    a ≤ t ∧ t ≤ l.length ∧ ps.flatMap (fun p => p.put h) = (l.drop a).take (t - a)
  | [], g, a, h, t, _, ha, e, _ => by
    simp only [gets, List.foldl_nil, Prod.mk.injEq, and_true] at e
    obtain ⟨rfl, rfl⟩ := e
    exact ⟨Nat.le_refl _, ha, by simp⟩
  | p :: ps, g, a, h, t, hn, ha, e, hr => by
    rw [gets_cons] at e
    simp only [List.map_cons, List.nodup_cons, List.mem_map, not_exists, not_and] at hn
    simp only [List.all_cons, Bool.and_eq_true] at hr
    have hap := gets_apart p l ps (p.get l a g) (fun q hq he => hn.1 q hq he.symm)
    rw [e] at hap
    simp only at hap
    by_cases h0 : (p.get l a g).2.2 = 0
    · obtain ⟨g1, g2, g3⟩ := get_got1 p l a g (p.get l a g).2.1 ha (by rw [← h0]) (by rw [← hap.2]; exact hr.1)
      obtain ⟨r1, r2, r3⟩ := gets_got l ps (p.get l a g).1 (p.get l a g).2.1 h t hn.2 g2 (by rw [← e, ← h0]) hr.2
      refine ⟨by omega, r2, ?_⟩
      rw [List.flatMap_cons, hap.1, g3, r3, show t - a = ((p.get l a g).2.1 - a) + (t - (p.get l a g).2.1) by omega, List.take_add, List.drop_drop, show a + ((p.get l a g).2.1 - a) = (p.get l a g).2.1 by omega]
    · rw [gets_bad l _ h0] at e
      rw [e] at h0
      exact absurd rfl h0
theorem parts_nodup (k : Int) : ((parts k).map P.id).Nodup := by
  rcases has_cases k with ⟨_, _, e⟩ | ⟨_, _, e⟩ | ⟨_, _, e⟩ | ⟨_, _, e⟩ | ⟨_, _, e⟩ | ⟨_, _, e⟩ | ⟨_, _, e⟩ <;> rw [e] <;> decide
theorem read_got (l : List UInt8) (f : F) (h : read l = (f, 0)) : right f = true ∧ inner f = l := by
  unfold read at h
  by_cases h0 : (vget l 0).2.2 = 0
  · rw [if_neg (by simp [h0])] at h
    have hv : vget l ((0 : Nat) : Int) = ((vget l 0).1, (vget l 0).2.1, 0) := Prod.ext rfl (Prod.ext rfl h0)
    obtain ⟨v1, v2, v3, v4⟩ := Ev.vget_got l 0 _ _ hv
    generalize (vget l 0).1 = n at h v3 v4
    generalize (vget l 0).2.1 = q at h v1 v2 v4
    by_cases h1 : (has (kindOf n)).isSome = true
    · rw [if_pos h1] at h
      obtain ⟨⟨g, t, e⟩, hg⟩ : ∃ x, gets (parts (kindOf n)) l (made (kindOf n), q, 0) = x := ⟨_, rfl⟩
      rw [hg] at h
      simp only at h
      by_cases h2 : e = 0
      · subst h2
        rw [if_neg (by simp)] at h
        by_cases h3 : t < l.length
        · rw [if_pos h3] at h; simp at h
        rw [if_neg h3] at h
        by_cases h4 : allows (parts (kindOf n)) g = true
        · rw [if_pos h4] at h
          simp only [Prod.mk.injEq, and_true] at h
          subst h
          have hk : g.k = kindOf n := by
            have := gets_k l (parts (kindOf n)) (made (kindOf n), q, 0)
            rw [hg] at this
            exact this
          have hall := h4
          rw [allows, Bool.and_eq_true] at hall
          obtain ⟨r1, r2, r3⟩ := gets_got l (parts (kindOf n)) _ q g t (parts_nodup _) v2 hg hall.1
          have hr : right g = true := by rw [right, hk, h1, h4]; rfl
          refine ⟨hr, ?_⟩
          have hkk := right_kind g hr
          have hkn : (kindOf n).toNat = n := by rw [hk] at hkk; unfold kindOf at hkk ⊢; omega
          rw [inner, hk, hkn, r3, v4, List.drop_zero, Nat.sub_zero, ← List.take_add, show q + (t - q) = l.length by omega, List.take_length]
        · rw [if_neg h4] at h; simp at h
      · rw [if_pos h2] at h
        simp only [Prod.mk.injEq] at h
        exact absurd h.2 h2
    · rw [if_neg h1] at h; simp at h
  · rw [if_pos h0] at h
    simp only [Prod.mk.injEq] at h
    exact absurd h.2 h0
theorem get_got (s : List UInt8) (f : F) (h : get s = (f, 0)) : right f = true ∧ put f = s := by
  unfold get at h
  by_cases h1 : 4096 < s.length
  · rw [if_pos h1] at h; simp at h
  rw [if_neg h1] at h
  by_cases h2 : (Ck.open_ s 0).2.2 = 0
  · rw [if_neg (by simp [h2])] at h
    obtain ⟨g1, g2, g3, g4⟩ := Ck.open_got s h2
    by_cases h3 : (Ck.open_ s 0).2.1 < s.length
    · rw [if_pos h3] at h; simp at h
    rw [if_neg h3] at h
    obtain ⟨r1, r2⟩ := read_got _ f h
    refine ⟨r1, ?_⟩
    rw [put, if_pos r1, r2, ← g4, List.take_of_length_le (by omega)]
  · rw [if_pos h2] at h
    simp only [Prod.mk.injEq] at h
    exact absurd h.2 h2
theorem onGet_le (l : List UInt8) (a : Nat) (g : F) : (onGet l a g).2.1 ≤ l.length ∧ (onGet l a g).2.2 ≤ 4 := by
  unfold onGet
  split
  · simp
  · rename_i c hc
    have := (List.getElem?_eq_some_iff.1 hc).1
    split
    · simp
    · simp; omega
theorem read_bad (l : List UInt8) (h : (read l).2 ≠ 0) : (read l).1 = .zero := by
  unfold read at h ⊢
  by_cases h0 : (vget l 0).2.2 ≠ 0
  · rw [if_pos h0]
  rw [if_neg h0] at h ⊢
  by_cases h1 : (has (kindOf (vget l 0).1)).isSome = true
  · rw [if_pos h1] at h ⊢
    generalize gets (parts (kindOf (vget l 0).1)) l (made (kindOf (vget l 0).1), (vget l 0).2.1, 0) = x at h ⊢
    by_cases h2 : x.2.2 ≠ 0
    · rw [if_pos h2]
    rw [if_neg h2] at h ⊢
    by_cases h3 : x.2.1 < l.length
    · rw [if_pos h3]
    rw [if_neg h3] at h ⊢
    by_cases h4 : allows (parts (kindOf (vget l 0).1)) x.1 = true
    · rw [if_pos h4] at h; exact absurd rfl h
    · rw [if_neg h4]
  · rw [if_neg h1]
theorem get_bad (s : List UInt8) (h : (get s).2 ≠ 0) : (get s).1 = .zero := by
  have hr := read_bad
  unfold get at h ⊢
  by_cases h1 : 4096 < s.length
  · rw [if_pos h1]
  rw [if_neg h1] at h ⊢
  by_cases h2 : (Ck.open_ s 0).2.2 ≠ 0
  · rw [if_pos h2]
  rw [if_neg h2] at h ⊢
  by_cases h3 : (Ck.open_ s 0).2.1 < s.length
  · rw [if_pos h3]
  rw [if_neg h3] at h ⊢
  exact hr _ h
/-- bytes without their end -/
theorem get_cut (f : F) (h : right f = true) (hs : (inner f).length ≤ 700) (k : Nat) (hk : k < (put f).length) : get ((put f).take k) = (.zero, 3) := by
  rw [put, if_pos h] at hk ⊢
  have hl := Ck.seal_length (inner f)
  have hz := Vn.vsz_pos (inner f).length
  rw [get, if_neg (by rw [List.length_take]; omega), Ck.open_cut (inner f) k (by omega) hk]
  simp
/-- bytes with one more -/
theorem get_more (f : F) (h : right f = true) (hs : (inner f).length ≤ 700) (c : UInt8) : get (put f ++ [c]) = (.zero, 4) := by
  rw [put, if_pos h]
  have hl := Ck.seal_length (inner f)
  have hz := Vn.vsz_pos (inner f).length
  have ho := Ck.open_seal0 (inner f) [c] (by omega)
  rw [get, if_neg (by simp only [List.length_append, List.length_singleton]; omega), ho]
  simp only
  rw [if_neg (by simp), if_pos (by simp)]
/-- bytes one of which, behind the second, is another -/
theorem get_turn (f : F) (h : right f = true) (hs : (inner f).length ≤ 700) (k : Nat) (hk : k < (put f).length) (h2 : 2 ≤ k) (c : UInt8) (hc : (put f)[k]? ≠ some c) : (get ((put f).set k c)).2 = 5 := by
  rw [put, if_pos h] at hk hc ⊢
  have hl := Ck.seal_length (inner f)
  have hz : Vn.vsz (inner f).length ≤ 2 := by unfold Vn.vsz; (repeat' split) <;> omega
  have ho := Ck.open_turn (inner f) (k - Vn.vsz (inner f).length) c (by omega) (by omega) (by rw [show Vn.vsz (inner f).length + (k - Vn.vsz (inner f).length) = k by omega]; exact hc)
  rw [show Vn.vsz (inner f).length + (k - Vn.vsz (inner f).length) = k by omega] at ho
  rw [get, if_neg (by rw [List.length_set]; omega), ho]
  simp
end Fr
end Go.Proofs.YtlfmpoinjbmjoaaGreatDoor
