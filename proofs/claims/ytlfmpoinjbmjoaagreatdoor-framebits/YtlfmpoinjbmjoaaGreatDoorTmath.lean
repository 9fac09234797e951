/-
  Layer 3's mathematics: levels, names, topics, filters, what they let by, and order.
-/
import Derived.Test.YtlfmpoinjbmjoaaGreatDoorVless
namespace Go.Proofs.YtlfmpoinjbmjoaaGreatDoor
namespace Tp

abbrev L := List UInt8

/-- the levels of a text -/
def lev : L → List L
  | [] => [[]]
  | c :: l => if c = 47 then [] :: lev l else match lev l with | [] => [[c]] | x :: xs => (c :: x) :: xs

theorem lev_ne : ∀ l, lev l ≠ []
  | [] => by simp [lev]
  | c :: l => by
    rw [lev]; split
    · simp
    · split <;> simp
theorem lev_slash (l : L) : lev (47 :: l) = [] :: lev l := by simp [lev]
theorem lev_head (c : UInt8) (l : L) (h : c ≠ 47) : ∃ x xs, lev l = x :: xs ∧ lev (c :: l) = (c :: x) :: xs := by
  have := lev_ne l
  rw [lev, if_neg h]
  cases e : lev l with
  | nil => exact absurd e this
  | cons x xs => exact ⟨x, xs, rfl, rfl⟩
/-- a text without a sign / is its only level -/
theorem lev_one : ∀ a : L, (∀ c ∈ a, c ≠ 47) → lev a = [a]
  | [], _ => rfl
  | c :: a, h => by
    obtain ⟨x, xs, e1, e2⟩ := lev_head c a (h c (by simp))
    rw [lev_one a (fun d hd => h d (by simp [hd]))] at e1
    cases e1
    exact e2
theorem lev_cut : ∀ (a b : L), (∀ c ∈ a, c ≠ 47) → lev (a ++ 47 :: b) = a :: lev b
  | [], b, _ => lev_slash b
  | c :: a, b, h => by
    obtain ⟨x, xs, e1, e2⟩ := lev_head c (a ++ 47 :: b) (h c (by simp))
    rw [lev_cut a b (fun d hd => h d (by simp [hd]))] at e1
    cases e1
    exact e2
theorem lev_join : ∀ (a b : L), lev (a ++ 47 :: b) = lev a ++ lev b
  | [], b => by rw [List.nil_append, lev_slash]; rfl
  | c :: a, b => by
    by_cases h : c = 47
    · subst h; rw [List.cons_append, lev_slash, lev_slash, lev_join a b]; rfl
    · obtain ⟨x, xs, e1, e2⟩ := lev_head c (a ++ 47 :: b) h
      obtain ⟨y, ys, e3, e4⟩ := lev_head c a h
      rw [lev_join a b, e3] at e1
      simp only [List.cons_append, List.cons.injEq] at e1
      obtain ⟨rfl, rfl⟩ := e1
      rw [List.cons_append, e2, e4]; rfl
theorem lev_length : ∀ l, (lev l).length ≤ l.length + 1
  | [] => by simp [lev]
  | c :: l => by
    by_cases h : c = 47
    · subst h; rw [lev_slash]; simp; exact lev_length l
    · obtain ⟨x, xs, e1, e2⟩ := lev_head c l h
      have := lev_length l
      rw [e1] at this; rw [e2]; simp at this ⊢; omega
theorem lev_size : ∀ l, ∀ x ∈ lev l, x.length ≤ l.length
  | [], x, h => by simp [lev] at h; subst h; simp
  | c :: l, x, h => by
    by_cases hc : c = 47
    · subst hc; rw [lev_slash] at h
      rcases List.mem_cons.1 h with rfl | h
      · simp
      · exact Nat.le_succ_of_le (lev_size l x h)
    · obtain ⟨y, ys, e1, e2⟩ := lev_head c l hc
      rw [e2] at h
      rcases List.mem_cons.1 h with rfl | h
      · have := lev_size l y (by rw [e1]; simp)
        simp; exact this
      · exact Nat.le_succ_of_le (lev_size l x (by rw [e1]; simp [h]))
theorem lev_noslash : ∀ l, ∀ x ∈ lev l, ∀ c ∈ x, c ≠ 47
  | [], x, h => by simp [lev] at h; subst h; simp
  | c :: l, x, h => by
    by_cases hc : c = 47
    · subst hc; rw [lev_slash] at h
      rcases List.mem_cons.1 h with rfl | h
      · simp
      · exact lev_noslash l x h
    · obtain ⟨y, ys, e1, e2⟩ := lev_head c l hc
      rw [e2] at h
      rcases List.mem_cons.1 h with rfl | h
      · intro d hd
        rcases List.mem_cons.1 hd with rfl | hd
        · exact hc
        · exact lev_noslash l y (by rw [e1]; simp) d hd
      · exact lev_noslash l x (by rw [e1]; simp [h])

/-- levels put together -/
def join : List L → L
  | [] => []
  | [x] => x
  | x :: y :: ys => x ++ 47 :: join (y :: ys)
theorem join_cons (x : L) (ys : List L) (h : ys ≠ []) : join (x :: ys) = x ++ 47 :: join ys := by
  cases ys with
  | nil => exact absurd rfl h
  | cons y ys => rfl
theorem join_lev : ∀ l, join (lev l) = l
  | [] => rfl
  | c :: l => by
    by_cases h : c = 47
    · subst h; rw [lev_slash, join_cons _ _ (lev_ne l), join_lev l]; rfl
    · obtain ⟨x, xs, e1, e2⟩ := lev_head c l h
      have := join_lev l
      rw [e1] at this
      rw [e2]
      cases xs with
      | nil => simp only [join] at this ⊢; rw [this]
      | cons y ys => simp only [join] at this ⊢; rw [List.cons_append, this]
theorem lev_inj {a b : L} (h : lev a = lev b) : a = b := by rw [← join_lev a, ← join_lev b, h]
theorem lev_of_join : ∀ ys : List L, ys ≠ [] → (∀ x ∈ ys, ∀ c ∈ x, c ≠ 47) → lev (join ys) = ys
  | [], h, _ => absurd rfl h
  | [x], _, h => lev_one x (h x (by simp))
  | x :: y :: ys, _, h => by
    rw [join, lev_cut _ _ (h x (by simp)), lev_of_join (y :: ys) (by simp) (fun z hz => h z (by simp [hz]))]
theorem join_snoc (x : L) : ∀ ys : List L, ys ≠ [] → join (ys ++ [x]) = join ys ++ 47 :: x
  | [], h => absurd rfl h
  | [y], _ => rfl
  | y :: z :: ys, _ => by
    have := join_snoc x (z :: ys) (by simp)
    rw [List.cons_append, join_cons y (z :: ys ++ [x]) (by simp), this, join_cons y (z :: ys) (by simp), List.append_assoc]
    rfl

/-- a byte of a name -/
def nb (c : UInt8) : Bool := (decide (97 ≤ c.toNat) && decide (c.toNat ≤ 122)) || (decide (48 ≤ c.toNat) && decide (c.toNat ≤ 57)) || decide (c.toNat = 45) || decide (c.toNat = 95)
def name (x : L) : Bool := decide (1 ≤ x.length) && decide (x.length ≤ 16) && x.all nb
abbrev plus : L := [43]
abbrev hash : L := [35]
theorem name_plus : name plus = false := by decide
theorem name_hash : name hash = false := by decide
theorem name_nil : name [] = false := by decide
def names (l : List L) : Bool := l.all name
def right (s : L) : Bool := decide ((lev s).length ≤ 8) && names (lev s)
/-- a level of a filter that is not its last -/
def part (x : L) : Bool := name x || x == plus
def filt : List L → Bool
  | [] => true
  | [x] => part x || x == hash
  | x :: y :: ys => part x && filt (y :: ys)
def filter (s : L) : Bool := decide ((lev s).length ≤ 8) && filt (lev s)

/-- covering, level by level -/
def cov : List L → List L → Bool
  | [], [] => true
  | [], _ :: _ => false
  | x :: _, [] => x == hash
  | x :: a, y :: b => if x = hash then true else if y = hash then false else (x == plus || x == y) && cov a b
/-- having a topic in common, level by level -/
def mee : List L → List L → Bool
  | [], [] => true
  | [], y :: _ => y == hash
  | x :: _, [] => x == hash
  | x :: a, y :: b => if x = hash ∨ y = hash then true else (x == plus || y == plus || x == y) && mee a b
/-- being ahead, level by level -/
def les : List L → List L → Bool
  | [], [] => false
  | [], _ :: _ => true
  | _ :: _, [] => false
  | x :: a, y :: b => if x = y then les a b else Op.bytesLess x y
def wide (b : L) : List L := if b = hash then [plus, hash] else lev b
def covers (a b : L) : Bool := filter a && filter b && cov (lev a) (wide b)
def match_ (f t : L) : Bool := right t && covers f t
def meet (a b : L) : Bool := filter a && filter b && mee (lev a) (lev b)
def less (a b : L) : Bool := les (lev a) (lev b)

/-! ### what a filter lets by, by number of levels -/
/-- the levels of a filter's topics that have n -/
def row : List L → Nat → Option (List L)
  | [], 0 => some []
  | [], _ + 1 => none
  | x :: xs, n => if x = hash then some (List.replicate n plus) else match n with
    | 0 => none
    | n + 1 => (row xs n).map (x :: ·)
def ptw : List L → List L → Bool
  | [], [] => true
  | x :: a, y :: b => (x == plus || x == y) && ptw a b
  | _, _ => false
def mtw : List L → List L → Bool
  | [], [] => true
  | x :: a, y :: b => (x == plus || y == plus || x == y) && mtw a b
  | _, _ => false

theorem row_hash (xs : List L) (n : Nat) : row (hash :: xs) n = some (List.replicate n plus) := by simp [row]
theorem row_zero {x : L} (xs : List L) (h : x ≠ hash) : row (x :: xs) 0 = none := by simp [row, h]
theorem row_succ {x : L} (xs : List L) (n : Nat) (h : x ≠ hash) : row (x :: xs) (n + 1) = (row xs n).map (x :: ·) := by simp [row, h]
theorem row_len : ∀ (a : List L) (n : Nat) (y : List L), row a n = some y → y.length = n
  | [], 0, y, h => by simp [row] at h; subst h; rfl
  | [], n + 1, y, h => by simp [row] at h
  | x :: a, n, y, h => by
    by_cases hx : x = hash
    · subst hx; rw [row_hash] at h; cases h; simp
    · cases n with
      | zero => rw [row_zero a hx] at h; cases h
      | succ n =>
        rw [row_succ a n hx] at h
        cases e : row a n with
        | none => rw [e] at h; cases h
        | some z => rw [e] at h; cases h; simp [row_len a n z e]
/-- a filter has topics -/
theorem row_some : ∀ (a : List L) (M : Nat), a.length ≤ M → ∃ n y, n ≤ M ∧ row a n = some y
  | [], M, _ => ⟨0, [], Nat.zero_le _, rfl⟩
  | x :: a, M, h => by
    by_cases hx : x = hash
    · subst hx; exact ⟨0, [], Nat.zero_le _, by rw [row_hash]; rfl⟩
    · obtain ⟨n, y, hn, e⟩ := row_some a (M - 1) (by simp at h; omega)
      exact ⟨n + 1, x :: y, by simp at h; omega, by rw [row_succ a n hx, e]; rfl⟩
theorem ptw_refl : ∀ x, ptw x x = true
  | [] => rfl
  | x :: a => by simp [ptw, ptw_refl a]
theorem ptw_plus : ∀ (n : Nat) (y : List L), y.length = n → ptw (List.replicate n plus) y = true
  | 0, [], _ => rfl
  | n + 1, y :: b, h => by rw [List.replicate_succ, ptw, ptw_plus n b (by simpa using h)]; simp
  | 0, _ :: _, h => by simp at h
  | n + 1, [], h => by simp at h
theorem mtw_plus : ∀ (n : Nat) (y : List L), y.length = n → mtw (List.replicate n plus) y = true
  | 0, [], _ => rfl
  | n + 1, y :: b, h => by rw [List.replicate_succ, mtw, mtw_plus n b (by simpa using h)]; simp
  | 0, _ :: _, h => by simp at h
  | n + 1, [], h => by simp at h
theorem mtw_comm : ∀ x y, mtw x y = mtw y x
  | [], [] => rfl
  | [], _ :: _ => rfl
  | _ :: _, [] => rfl
  | x :: a, y :: b => by
    rw [mtw, mtw, mtw_comm a b, Bool.or_comm (x == plus), Bool.beq_comm (a := x) (b := y)]
theorem ptw_trans : ∀ x y z, ptw x y = true → ptw y z = true → ptw x z = true
  | [], [], [], _, _ => rfl
  | x :: a, y :: b, z :: c, h1, h2 => by
    simp only [ptw, Bool.and_eq_true, Bool.or_eq_true, beq_iff_eq] at h1 h2 ⊢
    refine ⟨?_, ptw_trans a b c h1.2 h2.2⟩
    rcases h1.1 with h | h
    · exact .inl h
    · subst h; exact h2.1
  | [], _ :: _, _, h, _ => by simp [ptw] at h
  | _ :: _, [], _, h, _ => by simp [ptw] at h
  | [], [], _ :: _, _, h => by simp [ptw] at h
  | _ :: _, _ :: _, [], _, h => by simp [ptw] at h
theorem mtw_of_ptw : ∀ x y, ptw x y = true → mtw x y = true
  | [], [], _ => rfl
  | x :: a, y :: b, h => by
    simp only [ptw, mtw, Bool.and_eq_true, Bool.or_eq_true, beq_iff_eq] at h ⊢
    exact ⟨h.1.elim (fun h => .inl (.inl h)) .inr, mtw_of_ptw a b h.2⟩
  | [], _ :: _, h => by simp [ptw] at h
  | _ :: _, [], h => by simp [ptw] at h

/-- a covers b, as to topics of lo to M levels -/
def Cov (lo M : Nat) (a b : List L) : Prop := ∀ n y, lo ≤ n → n ≤ M → row b n = some y → ∃ x, row a n = some x ∧ ptw x y = true
theorem cov_iff : ∀ (a b : List L) (M : Nat), a.length ≤ M → b.length ≤ M → (cov a b = true ↔ Cov 0 M a b)
  | [], [], M, _, _ => by
    refine ⟨fun _ n y _ _ h => ?_, fun _ => rfl⟩
    exact ⟨y, h, ptw_refl y⟩
  | [], y :: b, M, _, hb => by
    refine ⟨fun h => by simp [cov] at h, fun h => ?_⟩
    simp only [List.length_cons] at hb
    exfalso
    by_cases hy : y = hash
    · subst hy
      obtain ⟨x, hx, _⟩ := h 1 _ (Nat.zero_le _) (by omega) (row_hash b 1)
      cases hx
    · obtain ⟨n, z, hn, e⟩ := row_some b (M - 1) (by omega)
      obtain ⟨x, hx, _⟩ := h (n + 1) (y :: z) (Nat.zero_le _) (by omega) (by rw [row_succ b n hy, e]; rfl)
      cases hx
  | x :: a, [], M, _, _ => by
    rw [cov, beq_iff_eq]
    constructor
    · rintro rfl n y _ _ h
      refine ⟨_, row_hash a n, ptw_plus n y (row_len [] n y h)⟩
    · intro h
      obtain ⟨z, hz, _⟩ := h 0 [] (Nat.le_refl _) (Nat.zero_le _) rfl
      by_cases hx : x = hash
      · exact hx
      · rw [row_zero a hx] at hz; cases hz
  | x :: a, y :: b, M, ha, hb => by
    simp only [List.length_cons] at ha hb
    rw [cov]
    by_cases hx : x = hash
    · subst hx
      rw [if_pos rfl]
      refine ⟨fun _ n z _ _ h => ⟨_, row_hash a n, ptw_plus n z (row_len _ n z h)⟩, fun _ => rfl⟩
    · rw [if_neg hx]
      by_cases hy : y = hash
      · subst hy
        rw [if_pos rfl]
        refine ⟨fun h => (by cases h), fun h => ?_⟩
        obtain ⟨z, hz, _⟩ := h 0 [] (Nat.le_refl _) (Nat.zero_le _) (row_hash b 0)
        rw [row_zero a hx] at hz; cases hz
      · rw [if_neg hy, Bool.and_eq_true, cov_iff a b (M - 1) (by omega) (by omega)]
        constructor
        · rintro ⟨h1, h2⟩ n z _ hn hz
          cases n with
          | zero => rw [row_zero b hy] at hz; cases hz
          | succ n =>
            rw [row_succ b n hy] at hz
            cases e : row b n with
            | none => rw [e] at hz; cases hz
            | some u =>
              rw [e] at hz
              cases hz
              obtain ⟨v, hv, hp⟩ := h2 n u (Nat.zero_le _) (by omega) e
              refine ⟨x :: v, by rw [row_succ a n hx, hv]; rfl, ?_⟩
              rw [ptw, h1, hp]; rfl
        · intro h
          have go : ∀ n z, n ≤ M - 1 → row b n = some z → ∃ v, row a n = some v ∧ (x == plus || x == y) = true ∧ ptw v z = true := by
            intro n z hn hz
            obtain ⟨v, hv, hp⟩ := h (n + 1) (y :: z) (Nat.zero_le _) (by omega) (by rw [row_succ b n hy, hz]; rfl)
            rw [row_succ a n hx] at hv
            cases e : row a n with
            | none => rw [e] at hv; cases hv
            | some u =>
              rw [e] at hv
              cases hv
              rw [ptw, Bool.and_eq_true] at hp
              exact ⟨u, rfl, hp.1, hp.2⟩
          obtain ⟨n, z, hn, hz⟩ := row_some b (M - 1) (by omega)
          obtain ⟨_, _, h1, _⟩ := go n z hn hz
          exact ⟨h1, fun n z _ hn hz => by obtain ⟨v, h1, _, h3⟩ := go n z hn hz; exact ⟨v, h1, h3⟩⟩
theorem cov_lo {M : Nat} {a b : List L} (hb : b ≠ []) (h : b.head? ≠ some hash) : Cov 0 M a b ↔ Cov 1 M a b := by
  refine ⟨fun k n y h1 => k n y (Nat.zero_le _), fun k n y h1 hn hy => ?_⟩
  cases n with
  | zero =>
    cases b with
    | nil => exact absurd rfl hb
    | cons z b =>
      rw [row_zero b (fun e => h (by rw [e]; rfl))] at hy
      cases hy
  | succ n => exact k (n + 1) y (by omega) hn hy
theorem lev_hash {b : L} (h : lev b = [hash]) : b = hash := by rw [← join_lev b, h]; rfl
theorem wide_lev {b : L} (h : b ≠ hash) : wide b = lev b := by rw [wide, if_neg h]
theorem filt_head {x : L} {xs : List L} (h : filt (x :: xs) = true) (hx : x = hash) : xs = [] := by
  cases xs with
  | nil => rfl
  | cons y ys => subst hx; simp [filt, part, name_hash] at h
theorem row_wide (n : Nat) : row [plus, hash] (n + 1) = row [hash] (n + 1) := by
  rw [row_succ _ _ (by decide), row_hash, row_hash]; rfl
theorem filter_len {a : L} (h : filter a = true) : (lev a).length ≤ 8 := by
  rw [filter, Bool.and_eq_true, decide_eq_true_eq] at h; exact h.1
theorem filter_filt {a : L} (h : filter a = true) : filt (lev a) = true := by
  rw [filter, Bool.and_eq_true] at h; exact h.2
/-- covering is letting all by -/
theorem cov_wide {a b : L} (ha : filter a = true) (hb : filter b = true) : cov (lev a) (wide b) = true ↔ Cov 1 8 (lev a) (lev b) := by
  have la := filter_len ha
  have lb := filter_len hb
  by_cases h : b = hash
  · subst h
    have e : wide hash = [plus, hash] := rfl
    have e2 : lev hash = [hash] := rfl
    rw [e, e2, cov_iff _ _ 8 la (by simp), cov_lo (by simp) (by decide)]
    constructor
    · intro k n y h1 hn hy
      obtain ⟨n, rfl⟩ : ∃ m, n = m + 1 := ⟨n - 1, by omega⟩
      exact k _ y h1 hn (by rw [row_wide]; exact hy)
    · intro k n y h1 hn hy
      obtain ⟨n, rfl⟩ : ∃ m, n = m + 1 := ⟨n - 1, by omega⟩
      exact k _ y h1 hn (by rw [← row_wide]; exact hy)
  · rw [wide_lev h, cov_iff _ _ 8 la lb, cov_lo (lev_ne b)]
    intro e
    cases hl : lev b with
    | nil => exact lev_ne b hl
    | cons x xs =>
      rw [hl] at e
      simp at e
      subst e
      have hf := filter_filt hb
      rw [hl] at hf
      have := filt_head hf rfl
      subst this
      exact h (lev_hash hl)

/-- there is a topic of at most M levels that both let by -/
def Mee (lo M : Nat) (a b : List L) : Prop := ∃ n x y, lo ≤ n ∧ n ≤ M ∧ row a n = some x ∧ row b n = some y ∧ mtw x y = true
theorem mee_iff : ∀ (a b : List L) (M : Nat), a.length ≤ M → b.length ≤ M → (mee a b = true ↔ Mee 0 M a b)
  | [], [], M, _, _ => ⟨fun _ => ⟨0, [], [], Nat.le_refl _, Nat.zero_le _, rfl, rfl, rfl⟩, fun _ => rfl⟩
  | [], y :: b, M, _, _ => by
    rw [mee, beq_iff_eq]
    constructor
    · rintro rfl
      exact ⟨0, [], [], Nat.le_refl _, Nat.zero_le _, rfl, row_hash b 0, rfl⟩
    · rintro ⟨n, x, z, _, _, h1, h2, _⟩
      cases n with
      | succ n => cases h1
      | zero =>
        by_cases hy : y = hash
        · exact hy
        · rw [row_zero b hy] at h2; cases h2
  | x :: a, [], M, _, _ => by
    rw [mee, beq_iff_eq]
    constructor
    · rintro rfl
      exact ⟨0, [], [], Nat.le_refl _, Nat.zero_le _, row_hash a 0, rfl, rfl⟩
    · rintro ⟨n, u, z, _, _, h1, h2, _⟩
      cases n with
      | succ n => cases h2
      | zero =>
        by_cases hx : x = hash
        · exact hx
        · rw [row_zero a hx] at h1; cases h1
  | x :: a, y :: b, M, ha, hb => by
    rw [mee]
    by_cases hx : x = hash
    · subst hx
      rw [if_pos (.inl rfl)]
      refine ⟨fun _ => ?_, fun _ => rfl⟩
      obtain ⟨n, z, hn, e⟩ := row_some (y :: b) M hb
      exact ⟨n, _, z, Nat.zero_le _, hn, row_hash a n, e, mtw_plus n z (row_len _ n z e)⟩
    · by_cases hy : y = hash
      · subst hy
        rw [if_pos (.inr rfl)]
        refine ⟨fun _ => ?_, fun _ => rfl⟩
        obtain ⟨n, z, hn, e⟩ := row_some (x :: a) M ha
        exact ⟨n, z, _, Nat.zero_le _, hn, e, row_hash b n, by rw [mtw_comm]; exact mtw_plus n z (row_len _ n z e)⟩
      · simp only [List.length_cons] at ha hb
        rw [if_neg (by rintro (h | h); exact hx h; exact hy h), Bool.and_eq_true, mee_iff a b (M - 1) (by omega) (by omega)]
        constructor
        · rintro ⟨h1, n, u, v, _, hn, e1, e2, h2⟩
          exact ⟨n + 1, x :: u, y :: v, Nat.zero_le _, by omega, by rw [row_succ a n hx, e1]; rfl, by rw [row_succ b n hy, e2]; rfl, by rw [mtw, h1, h2]; rfl⟩
        · rintro ⟨n, u, v, _, hn, e1, e2, h2⟩
          cases n with
          | zero => rw [row_zero a hx] at e1; cases e1
          | succ n =>
            rw [row_succ a n hx] at e1
            rw [row_succ b n hy] at e2
            cases f1 : row a n with
            | none => rw [f1] at e1; cases e1
            | some u' =>
              cases f2 : row b n with
              | none => rw [f2] at e2; cases e2
              | some v' =>
                rw [f1] at e1; rw [f2] at e2
                cases e1; cases e2
                rw [mtw, Bool.and_eq_true] at h2
                exact ⟨h2.1, n, u', v', Nat.zero_le _, by omega, f1, f2, h2.2⟩
theorem mee_lo {M : Nat} (hM : 1 ≤ M) {a b : List L} (ha : a ≠ []) (hb : b ≠ []) : Mee 0 M a b ↔ Mee 1 M a b := by
  refine ⟨?_, fun ⟨n, x, y, h1, h⟩ => ⟨n, x, y, Nat.zero_le _, h⟩⟩
  rintro ⟨n, x, y, _, hn, h1, h2, h3⟩
  cases n with
  | succ n => exact ⟨n + 1, x, y, by omega, hn, h1, h2, h3⟩
  | zero =>
    cases a with
    | nil => exact absurd rfl ha
    | cons u a =>
      cases b with
      | nil => exact absurd rfl hb
      | cons v b =>
        by_cases hu : u = hash
        · by_cases hv : v = hash
          · subst hu; subst hv
            exact ⟨1, _, _, by omega, hM, row_hash a 1, row_hash b 1, by decide⟩
          · rw [row_zero b hv] at h2; cases h2
        · rw [row_zero a hu] at h1; cases h1
theorem mee_lev {a b : L} (ha : filter a = true) (hb : filter b = true) : mee (lev a) (lev b) = true ↔ Mee 1 8 (lev a) (lev b) := by
  rw [mee_iff _ _ 8 (filter_len ha) (filter_len hb), mee_lo (by omega) (lev_ne a) (lev_ne b)]

theorem covers_iff (a b : L) : covers a b = true ↔ filter a = true ∧ filter b = true ∧ Cov 1 8 (lev a) (lev b) := by
  rw [covers, Bool.and_eq_true, Bool.and_eq_true, and_assoc]
  constructor
  · rintro ⟨h1, h2, h3⟩; exact ⟨h1, h2, (cov_wide h1 h2).1 h3⟩
  · rintro ⟨h1, h2, h3⟩; exact ⟨h1, h2, (cov_wide h1 h2).2 h3⟩
theorem meet_iff (a b : L) : meet a b = true ↔ filter a = true ∧ filter b = true ∧ Mee 1 8 (lev a) (lev b) := by
  rw [meet, Bool.and_eq_true, Bool.and_eq_true, and_assoc]
  constructor
  · rintro ⟨h1, h2, h3⟩; exact ⟨h1, h2, (mee_lev h1 h2).1 h3⟩
  · rintro ⟨h1, h2, h3⟩; exact ⟨h1, h2, (mee_lev h1 h2).2 h3⟩
end Tp
end Go.Proofs.YtlfmpoinjbmjoaaGreatDoor
