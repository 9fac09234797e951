/-
  The plain mathematics of sums of bytes (CRC-32), of sealed bytes and of rows of them.
-/
import Derived.Test.YtenhncohhikllaaDoorVback
namespace Go.Proofs.YtenhncohhikllaaDoor.Ck

/-- one step of a sum -/
def one (n : Nat) : Nat := if n % 2 = 1 then n / 2 ^^^ 3988292384 else n / 2
/-- k steps -/
def steps : Nat → Nat → Nat
  | 0, n => n
  | k + 1, n => one (steps k n)
/-- a byte's eight steps -/
def st8 (n : Nat) : Nat := steps 8 n

theorem xor_mod2 (a b : Nat) : (a ^^^ b) % 2 = (a % 2 + b % 2) % 2 := by
  have h := Nat.testBit_xor a b 0
  simp only [Nat.testBit_zero] at h
  have hx := Nat.mod_two_eq_zero_or_one (a ^^^ b)
  rcases Nat.mod_two_eq_zero_or_one a with ha | ha <;> rcases Nat.mod_two_eq_zero_or_one b with hb | hb <;> rcases hx with hx | hx <;> simp [ha, hb, hx] at h ⊢
theorem one_xor (a b : Nat) : one (a ^^^ b) = one a ^^^ one b := by
  have h := xor_mod2 a b
  unfold one
  rw [Nat.xor_div_two]
  rcases Nat.mod_two_eq_zero_or_one a with ha | ha <;> rcases Nat.mod_two_eq_zero_or_one b with hb | hb <;> rw [ha, hb] at h <;> simp [ha, hb, h]
  · rw [Nat.xor_assoc]
  · rw [Nat.xor_assoc, Nat.xor_comm (b / 2), ← Nat.xor_assoc]
  · rw [Nat.xor_assoc (a / 2) 3988292384, ← Nat.xor_assoc 3988292384 (b / 2), Nat.xor_comm 3988292384 (b / 2), Nat.xor_assoc (b / 2), Nat.xor_self, Nat.xor_zero]
theorem steps_xor : ∀ k a b, steps k (a ^^^ b) = steps k a ^^^ steps k b
  | 0, _, _ => rfl
  | k + 1, a, b => by rw [steps, steps_xor k, one_xor]; rfl
theorem one_even (h : Nat) : one (2 * h) = h := by unfold one; rw [if_neg (by omega)]; omega
theorem st8_high (h : Nat) : st8 (256 * h) = h := by
  show one (one (one (one (one (one (one (one (256 * h)))))))) = h
  rw [show 256 * h = 2 * (128 * h) by omega, one_even, show 128 * h = 2 * (64 * h) by omega, one_even, show 64 * h = 2 * (32 * h) by omega, one_even, show 32 * h = 2 * (16 * h) by omega, one_even,
    show 16 * h = 2 * (8 * h) by omega, one_even, show 8 * h = 2 * (4 * h) by omega, one_even, show 4 * h = 2 * (2 * h) by omega, one_even, one_even]
theorem split256 (n : Nat) : n = 256 * (n / 256) ^^^ n % 256 := by
  apply Nat.eq_of_testBit_eq
  intro i
  rw [Nat.testBit_xor, show (256 : Nat) = 2 ^ 8 from rfl, Nat.testBit_two_pow_mul, Nat.testBit_mod_two_pow, Nat.testBit_div_two_pow]
  by_cases h : i < 8
  · simp [h, show ¬ 8 ≤ i by omega]
  · simp [h, show 8 ≤ i by omega, show i - 8 + 8 = i by omega]
/-- a byte's steps by the table -/
theorem st8_byte (n c : Nat) : st8 (n ^^^ c) = st8 (n % 256 ^^^ c) ^^^ n / 256 := by
  conv => lhs; rw [split256 n, Nat.xor_assoc]
  unfold st8
  rw [steps_xor]
  have := st8_high (n / 256)
  unfold st8 at this
  rw [this, Nat.xor_comm]

theorem one_lt (n : Nat) (h : n < 4294967296) : one n < 4294967296 := by
  unfold one
  split
  · exact Nat.xor_lt_two_pow (n := 32) (by omega) (by decide)
  · omega
theorem steps_lt : ∀ k n, n < 4294967296 → steps k n < 4294967296
  | 0, _, h => h
  | k + 1, n, h => one_lt _ (steps_lt k n h)
theorem xor_left_cancel (a b c : Nat) (h : a ^^^ c = b ^^^ c) : a = b := by
  have := congrArg (· ^^^ c) h
  simpa [Nat.xor_assoc] using this
theorem one_inj (a b : Nat) (ha : a < 4294967296) (hb : b < 4294967296) (h : one a = one b) : a = b := by
  have hcon : ∀ x y : Nat, x < 4294967296 → y < 4294967296 → x / 2 ^^^ 3988292384 = y / 2 → False := by
    intro x y hx hy e
    have h1 : x / 2 ^^^ y / 2 = 3988292384 := by
      rw [← e, ← Nat.xor_assoc, Nat.xor_self, Nat.zero_xor]
    have h2 : x / 2 ^^^ y / 2 < 2 ^ 31 := Nat.xor_lt_two_pow (by omega) (by omega)
    omega
  unfold one at h
  split at h <;> split at h
  · have := xor_left_cancel _ _ _ h; omega
  · exact (hcon a b ha hb h).elim
  · exact (hcon b a hb ha h.symm).elim
  · omega
theorem steps_inj : ∀ k a b, a < 4294967296 → b < 4294967296 → steps k a = steps k b → a = b
  | 0, _, _, _, _, h => h
  | k + 1, a, b, ha, hb, h => steps_inj k a b ha hb (one_inj _ _ (steps_lt k a ha) (steps_lt k b hb) h)

/-- a sum, its bits turned, goes on with bytes -/
def crc (n : Nat) (l : List UInt8) : Nat := l.foldl (fun n b => st8 (n ^^^ b.toNat)) n
theorem crc_snoc (n : Nat) (l : List UInt8) (b : UInt8) : crc n (l ++ [b]) = st8 (crc n l ^^^ b.toNat) := by simp [crc]
theorem crc_append (n : Nat) (l m : List UInt8) : crc n (l ++ m) = crc (crc n l) m := by simp [crc]
theorem xor_byte_lt (n : Nat) (b : UInt8) (h : n < 4294967296) : n ^^^ b.toNat < 4294967296 :=
  Nat.xor_lt_two_pow (n := 32) (by omega) (by have := b.toNat_lt; omega)
theorem crc_lt (l : List UInt8) : ∀ n, n < 4294967296 → crc n l < 4294967296 := by
  induction l with
  | nil => intro n h; exact h
  | cons b l ih => intro n h; exact ih _ (steps_lt 8 _ (xor_byte_lt n b h))
theorem crc_inj (l : List UInt8) : ∀ a b, a < 4294967296 → b < 4294967296 → crc a l = crc b l → a = b := by
  induction l with
  | nil => intro a b _ _ h; exact h
  | cons c l ih =>
    intro a b ha hb h
    have h1 := ih _ _ (steps_lt 8 _ (xor_byte_lt a c ha)) (steps_lt 8 _ (xor_byte_lt b c hb)) h
    exact xor_left_cancel _ _ _ (steps_inj 8 _ _ (xor_byte_lt a c ha) (xor_byte_lt b c hb) h1)
/-- a sum goes on -/
def add (n : Nat) (l : List UInt8) : Nat := 4294967295 - crc (4294967295 - n) l
def sum (l : List UInt8) : Nat := add 0 l
theorem add_lt (n : Nat) (l : List UInt8) : add n l < 4294967296 := by unfold add; omega
theorem add_nil (n : Nat) (h : n < 4294967296) : add n [] = n := by unfold add crc; simp; omega
theorem add_add (n : Nat) (l m : List UInt8) : add (add n l) m = add n (l ++ m) := by
  unfold add
  have := crc_lt l (4294967295 - n) (by omega)
  rw [crc_append, show 4294967295 - (4294967295 - crc (4294967295 - n) l) = crc (4294967295 - n) l by omega]
/-- one byte that is another makes another sum -/
theorem sum_turn (l m : List UInt8) (b c : UInt8) (h : b ≠ c) : sum (l ++ b :: m) ≠ sum (l ++ c :: m) := by
  intro e
  unfold sum add at e
  have hb := crc_lt (l ++ b :: m) 4294967295 (by decide)
  have hc := crc_lt (l ++ c :: m) 4294967295 (by decide)
  have e' : crc 4294967295 (l ++ b :: m) = crc 4294967295 (l ++ c :: m) := by simp only [Nat.sub_zero] at e; omega
  rw [crc_append, crc_append] at e'
  have hl := crc_lt l 4294967295 (by decide)
  have h1 := crc_inj m _ _ (steps_lt 8 _ (xor_byte_lt _ b hl)) (steps_lt 8 _ (xor_byte_lt _ c hl)) e'
  have h2 := steps_inj 8 _ _ (xor_byte_lt _ b hl) (xor_byte_lt _ c hl) h1
  rw [Nat.xor_comm _ b.toNat, Nat.xor_comm _ c.toNat] at h2
  exact h (UInt8.toNat_inj.1 (xor_left_cancel _ _ _ h2))

/-- a sum's bytes -/
def four (n : Nat) : List UInt8 := [UInt8.ofNat n, UInt8.ofNat (n / 256), UInt8.ofNat (n / 65536), UInt8.ofNat (n / 16777216)]
theorem four_length (n : Nat) : (four n).length = 4 := rfl
theorem four_inj (a b : Nat) (ha : a < 4294967296) (hb : b < 4294967296) (h : four a = four b) : a = b := by
  unfold four at h
  simp only [List.cons.injEq, and_true] at h
  obtain ⟨h1, h2, h3, h4⟩ := h
  have e := congrArg UInt8.toNat h1; have f := congrArg UInt8.toNat h2; have g := congrArg UInt8.toNat h3; have i := congrArg UInt8.toNat h4
  simp only [UInt8.toNat_ofNat'] at e f g i
  omega

/-- sealed -/
def seal_ (l : List UInt8) : List UInt8 := Vn.vput l.length ++ l ++ four (sum l)
theorem seal_length (l : List UInt8) : (seal_ l).length = Vn.vsz l.length + l.length + 4 := by
  simp [seal_, Vn.vput_length, four_length]; omega

/-- what Open answers -/
def open_ (l : List UInt8) (a : Int) : List UInt8 × Nat × Nat :=
  if (vcut l a).2.2 ≠ 0 then ([], 0, (vcut l a).2.2) else if l.length - (vcut l a).2.1 < 4 then ([], 0, 3) else
  if (l.drop (vcut l a).2.1).take 4 = four (sum (vcut l a).1) then ((vcut l a).1, (vcut l a).2.1 + 4, 0) else ([], 0, 5)

theorem vcut_le (l : List UInt8) (a : Int) : (vcut l a).1.length ≤ 65536 ∧ (vcut l a).2.1 ≤ l.length ∧ (vcut l a).2.2 ≤ 4 := by
  obtain ⟨h1, h2, h3⟩ := vget_le l a
  unfold vcut
  split
  · exact ⟨by simp, by simp, h3⟩
  split
  · simp
  split
  · simp
  · rename_i h4 h5
    refine ⟨?_, ?_, by simp⟩
    · simp only [List.length_take, List.length_drop]; omega
    · simp only; omega
/-- an answer further on -/
def sh {α : Type} (a : Nat) (x : α × Nat × Nat) : α × Nat × Nat := if x.2.2 = 0 then (x.1, a + x.2.1, 0) else x
theorem vget_at (l : List UInt8) (a : Nat) (h : a ≤ l.length) : vget l a = sh a (vget (l.drop a) 0) := by
  have e : vget (l.drop a) 0 = vget (l.drop a) ((0 : Nat) : Int) := rfl
  rw [e]
  unfold vget
  rw [if_neg (by omega), if_neg (by omega)]
  simp only [Int.toNat_natCast, List.drop_zero]
  split
  · simp [sh]
  · split
    · simp [sh]
    · split <;> simp [sh]
def cutOf (l : List UInt8) (g : Nat × Nat × Nat) : List UInt8 × Nat × Nat :=
  if g.2.2 ≠ 0 then ([], 0, g.2.2) else if 65536 < g.1 then ([], 0, 2) else if l.length - g.2.1 < g.1 then ([], 0, 3) else ((l.drop g.2.1).take g.1, g.2.1 + g.1, 0)
theorem cutOf_sh (l : List UInt8) (a : Nat) : ∀ g : Nat × Nat × Nat, cutOf l (sh a g) = sh a (cutOf (l.drop a) g)
  | (n, t, e) => by
    by_cases he : e = 0
    · subst he
      by_cases h2 : 65536 < n
      · simp [cutOf, sh, h2]
      · by_cases h3 : l.length - (a + t) < n
        · have h4 : l.length - a - t < n := by omega
          simp [cutOf, sh, h2, h3, h4]
        · have h4 : ¬ l.length - a - t < n := by omega
          simp [cutOf, sh, h2, h3, h4, Nat.add_assoc]
    · simp [cutOf, sh, he]
theorem vcut_at (l : List UInt8) (a : Nat) (h : a ≤ l.length) : vcut l a = sh a (vcut (l.drop a) 0) := by
  show cutOf l (vget l a) = sh a (cutOf (l.drop a) (vget (l.drop a) 0))
  rw [vget_at l a h, cutOf_sh]
def openOf (l : List UInt8) (c : List UInt8 × Nat × Nat) : List UInt8 × Nat × Nat :=
  if c.2.2 ≠ 0 then ([], 0, c.2.2) else if l.length - c.2.1 < 4 then ([], 0, 3) else if (l.drop c.2.1).take 4 = four (sum c.1) then (c.1, c.2.1 + 4, 0) else ([], 0, 5)
theorem openOf_sh (l : List UInt8) (a : Nat) : ∀ c : List UInt8 × Nat × Nat, openOf l (sh a c) = sh a (openOf (l.drop a) c)
  | (x, t, e) => by
    by_cases he : e = 0
    · subst he
      by_cases h3 : l.length - (a + t) < 4
      · have h4 : l.length - a - t < 4 := by omega
        simp [openOf, sh, h3, h4]
      · have h4 : ¬ l.length - a - t < 4 := by omega
        by_cases h5 : (l.drop (a + t)).take 4 = four (sum x)
        · simp [openOf, sh, h3, h4, h5, Nat.add_assoc]
        · simp [openOf, sh, h3, h4, h5]
    · simp [openOf, sh, he]
theorem open_at (l : List UInt8) (a : Nat) (h : a ≤ l.length) : open_ l a = sh a (open_ (l.drop a) 0) := by
  show openOf l (vcut l a) = sh a (openOf (l.drop a) (vcut (l.drop a) 0))
  rw [vcut_at l a h, openOf_sh]
/-- what is cut stands there, and goes on -/
theorem vcut_got (l : List UInt8) (h : (vcut l 0).2.2 = 0) : 0 < (vcut l 0).2.1 ∧ (vcut l 0).2.1 ≤ l.length ∧ (vcut l 0).1.length ≤ 65536 ∧
    l.take (vcut l 0).2.1 = Vn.vput (vcut l 0).1.length ++ (vcut l 0).1 := by
  have hle := vcut_le l 0
  obtain ⟨n, t, e, hg⟩ : ∃ n t e, vget l 0 = (n, t, e) := ⟨_, _, _, rfl⟩
  have hv : vcut l 0 = if e ≠ 0 then ([], 0, e) else if 65536 < n then ([], 0, 2) else if l.length - t < n then ([], 0, 3) else ((l.drop t).take n, t + n, 0) := by unfold vcut; rw [hg]
  rw [hv] at h hle ⊢
  by_cases he : e = 0
  · subst he
    rw [if_neg (by simp)] at h hle ⊢
    obtain ⟨g1, g2, g3, g4⟩ := vput_got l n t hg
    by_cases h2 : 65536 < n
    · rw [if_pos h2] at h; simp at h
    · rw [if_neg h2] at h hle ⊢
      by_cases h3 : l.length - t < n
      · rw [if_pos h3] at h; simp at h
      · rw [if_neg h3] at h hle ⊢
        simp only at hle ⊢
        refine ⟨by omega, hle.2.1, hle.1, ?_⟩
        have hn : ((l.drop t).take n).length = n := by simp only [List.length_take, List.length_drop]; omega
        rw [hn, g4, List.take_add]
  · rw [if_pos he] at h; exact absurd h he
/-- what is opened, sealed, is the bytes of which it was -/
theorem open_got (l : List UInt8) (h : (open_ l 0).2.2 = 0) : 0 < (open_ l 0).2.1 ∧ (open_ l 0).2.1 ≤ l.length ∧ (open_ l 0).1.length ≤ 65536 ∧
    l.take (open_ l 0).2.1 = seal_ (open_ l 0).1 := by
  have hv := vcut_got l
  have hle := vcut_le l 0
  unfold open_ at h ⊢
  generalize vcut l 0 = c at h hv hle ⊢
  obtain ⟨x, t, e⟩ := c
  simp only at h hv hle ⊢
  by_cases he : e = 0
  · subst he
    rw [if_neg (by simp)] at h ⊢
    obtain ⟨g1, g2, g3, g4⟩ := hv rfl
    by_cases h2 : l.length - t < 4
    · rw [if_pos h2] at h; simp at h
    · rw [if_neg h2] at h ⊢
      by_cases h3 : (l.drop t).take 4 = four (sum x)
      · rw [if_pos h3] at h ⊢
        refine ⟨by simp only; omega, by simp only; omega, g3, ?_⟩
        simp only
        rw [List.take_add, g4, h3]; rfl
      · rw [if_neg h3] at h; simp at h
  · rw [if_pos he] at h; exact absurd h he
theorem open_err (l : List UInt8) (a : Int) (h : (open_ l a).2.2 ≠ 0) : open_ l a = ([], 0, (open_ l a).2.2) := by
  unfold open_ at h ⊢
  split
  · rfl
  · rename_i h1
    rw [if_neg h1] at h
    split
    · rfl
    · rename_i h2
      rw [if_neg h2] at h
      split
      · rename_i h3
        rw [if_pos h3] at h
        simp at h
      · rfl
theorem open_le (l : List UInt8) (a : Int) : (open_ l a).2.2 ≤ 5 ∧ (open_ l a).2.1 ≤ l.length ∧ (open_ l a).1.length ≤ 65536 := by
  have h := vcut_le l a
  unfold open_
  split
  · exact ⟨by simp only; omega, by simp, by simp⟩
  · split
    · simp
    · split
      · exact ⟨by simp, by simp only; omega, by simp only; omega⟩
      · simp
theorem open_seal (a s t : List UInt8) (hs : s.length ≤ 65536) : open_ (a ++ (seal_ s ++ t)) a.length = (s, a.length + (seal_ s).length, 0) := by
  have h := vcut_text a s (four (sum s) ++ t) hs
  have e : a ++ (Vn.vput s.length ++ s ++ (four (sum s) ++ t)) = a ++ (seal_ s ++ t) := by simp [seal_]
  rw [e] at h
  unfold open_
  rw [h]
  simp only
  have hd : (a ++ (seal_ s ++ t)).drop (a.length + Vn.vsz s.length + s.length) = four (sum s) ++ t := by
    have e2 : a ++ (Vn.vput s.length ++ s ++ (four (sum s) ++ t)) = (a ++ (Vn.vput s.length ++ s)) ++ (four (sum s) ++ t) := by simp
    rw [← e, e2, show a.length + Vn.vsz s.length + s.length = (a ++ (Vn.vput s.length ++ s)).length by simp [Vn.vput_length]; omega, List.drop_left]
  rw [if_neg (by simp), hd, if_neg, if_pos]
  · rw [seal_length]; simp only [Prod.mk.injEq, true_and, and_true]; omega
  · exact List.take_left (l₁ := four (sum s)) (l₂ := t)
  · simp only [List.length_append, seal_length]; omega
theorem open_seal0 (s t : List UInt8) (hs : s.length ≤ 65536) : open_ (seal_ s ++ t) 0 = (s, (seal_ s).length, 0) := by
  have h := open_seal [] s t hs
  simp only [List.nil_append, List.length_nil, Nat.zero_add] at h
  exact h
/-- sealed bytes without their end -/
theorem open_cut (s : List UInt8) (k : Nat) (hs : s.length ≤ 65536) (hk : k < (seal_ s).length) : open_ ((seal_ s).take k) 0 = ([], 0, 3) := by
  rw [seal_length] at hk
  have hp := Vn.vput_length s.length
  by_cases h : k < Vn.vsz s.length + s.length
  · have e : (seal_ s).take k = (Vn.vput s.length ++ s).take k := by
      unfold seal_
      rw [List.take_append_of_le_length (by simp only [List.length_append, hp]; omega)]
    unfold open_
    rw [e, vcut_cut s k hs h]
    simp
  · have e : (seal_ s).take k = Vn.vput s.length ++ s ++ (four (sum s)).take (k - (Vn.vsz s.length + s.length)) := by
      unfold seal_
      rw [List.take_append, List.take_of_length_le (by simp only [List.length_append, hp]; omega)]
      simp only [List.length_append, hp]
    have hc := vcut_text [] s ((four (sum s)).take (k - (Vn.vsz s.length + s.length))) hs
    simp only [List.nil_append, List.length_nil, Nat.zero_add] at hc
    unfold open_
    rw [e, show (0 : Int) = ((0 : Nat) : Int) from rfl, hc]
    simp only
    rw [if_neg (by simp), if_pos]
    simp only [List.length_append, hp, List.length_take, four_length]
    omega
/-- sealed bytes one of which, behind the length, is another -/
theorem open_turn (s : List UInt8) (j : Nat) (c : UInt8) (hs : s.length ≤ 65536) (hj : j < s.length + 4) (hc : (seal_ s)[Vn.vsz s.length + j]? ≠ some c) :
    open_ ((seal_ s).set (Vn.vsz s.length + j) c) 0 = ([], 0, 5) := by
  have hp := Vn.vput_length s.length
  by_cases h : j < s.length
  · have hl : (s.set j c).length = s.length := by simp
    have e : (seal_ s).set (Vn.vsz s.length + j) c = Vn.vput (s.set j c).length ++ s.set j c ++ four (sum s) := by
      unfold seal_
      rw [List.set_append_left _ _ (by simp only [List.length_append, hp]; omega), List.set_append_right _ _ (by omega), hp, Nat.add_sub_cancel_left, hl]
    have hne : s[j] ≠ c := by
      intro e'
      apply hc
      unfold seal_
      rw [List.getElem?_append_left (by simp only [List.length_append, hp]; omega), List.getElem?_append_right (by omega), hp, Nat.add_sub_cancel_left, List.getElem?_eq_getElem h, e']
    have hsum : sum s ≠ sum (s.set j c) := by
      have e1 : s = s.take j ++ s[j] :: s.drop (j + 1) := by rw [← List.drop_eq_getElem_cons h, List.take_append_drop]
      have e2 : s.set j c = s.take j ++ c :: s.drop (j + 1) := by rw [List.set_eq_take_append_cons_drop, if_pos h]
      rw [e2]
      conv => lhs; rw [e1]
      exact sum_turn _ _ _ _ hne
    have hct := vcut_text [] (s.set j c) (four (sum s)) (by omega)
    simp only [List.nil_append, List.length_nil, Nat.zero_add] at hct
    unfold open_
    rw [e, show (0 : Int) = ((0 : Nat) : Int) from rfl, hct]
    simp only
    have hd : (Vn.vput (s.set j c).length ++ s.set j c ++ four (sum s)).drop (Vn.vsz (s.set j c).length + (s.set j c).length) = four (sum s) := by
      rw [show Vn.vsz (s.set j c).length + (s.set j c).length = (Vn.vput (s.set j c).length ++ s.set j c).length by simp only [List.length_append, Vn.vput_length], List.drop_left]
    rw [if_neg (by simp), hd, if_neg, if_neg]
    · intro e'
      rw [List.take_of_length_le (by rw [four_length]; exact Nat.le_refl _)] at e'
      exact hsum (four_inj _ _ (add_lt _ _) (add_lt _ _) e')
    · simp only [List.length_append, Vn.vput_length, four_length]; omega
  · have e : (seal_ s).set (Vn.vsz s.length + j) c = Vn.vput s.length ++ s ++ (four (sum s)).set (j - s.length) c := by
      unfold seal_
      rw [List.set_append_right _ _ (by simp only [List.length_append, hp]; omega)]
      simp only [List.length_append, hp]
      rw [show Vn.vsz s.length + j - (Vn.vsz s.length + s.length) = j - s.length by omega]
    have hne : (four (sum s))[j - s.length]? ≠ some c := by
      intro e'
      apply hc
      unfold seal_
      rw [List.getElem?_append_right (by simp only [List.length_append, hp]; omega)]
      simp only [List.length_append, hp]
      rw [show Vn.vsz s.length + j - (Vn.vsz s.length + s.length) = j - s.length by omega, e']
    have hct := vcut_text [] s ((four (sum s)).set (j - s.length) c) hs
    simp only [List.nil_append, List.length_nil, Nat.zero_add] at hct
    unfold open_
    rw [e, show (0 : Int) = ((0 : Nat) : Int) from rfl, hct]
    simp only
    have hd : (Vn.vput s.length ++ s ++ (four (sum s)).set (j - s.length) c).drop (Vn.vsz s.length + s.length) = (four (sum s)).set (j - s.length) c := by
      rw [show Vn.vsz s.length + s.length = (Vn.vput s.length ++ s).length by simp only [List.length_append, hp], List.drop_left]
    rw [if_neg (by simp), hd, if_neg, if_neg]
    · intro e'
      rw [List.take_of_length_le (by rw [List.length_set, four_length]; exact Nat.le_refl _)] at e'
      apply hne
      rw [← e', List.getElem?_set_self (by rw [four_length]; omega)]
    · simp only [List.length_append, hp, List.length_set, four_length]; omega

/-- sealed bytes one behind the other, as far as they are whole -/
def allF : Nat → List UInt8 → Nat → List (List UInt8) × Nat
  | 0, _, a => ([], a)
  | f + 1, l, a => if (open_ l a).2.2 = 0 then ((open_ l a).1 :: (allF f l (open_ l a).2.1).1, (allF f l (open_ l a).2.1).2) else ([], a)
def all_ (l : List UInt8) : List (List UInt8) × Nat := allF (l.length + 1) l 0

theorem open_at_got (l : List UInt8) (a : Nat) (ha : a ≤ l.length) (h : (open_ l a).2.2 = 0) : a < (open_ l a).2.1 ∧ (open_ l a).2.1 ≤ l.length ∧ (open_ l a).1.length ≤ 65536 ∧ a + (open_ l a).1.length + 5 ≤ (open_ l a).2.1 := by
  have hs := open_at l a ha
  have hg := open_got (l.drop a)
  rw [hs] at h ⊢
  generalize open_ (l.drop a) 0 = c at h hg ⊢
  obtain ⟨x, t, e⟩ := c
  simp only at hg
  by_cases he : e = 0
  · subst he
    simp only [sh, if_true] at h ⊢
    obtain ⟨h1, h2, h3, h4⟩ := hg rfl
    have h5 := congrArg List.length h4
    rw [seal_length, List.length_take] at h5
    simp only [List.length_drop] at h2 h5
    have := Vn.vsz_pos x.length
    refine ⟨by omega, by omega, h3, by omega⟩
  · simp only [sh, if_neg he] at h
    exact absurd h he
theorem open_end (l : List UInt8) : (open_ l (l.length : Nat)).2.2 ≠ 0 := by
  intro h
  have := open_at_got l l.length (Nat.le_refl _) h
  omega
theorem allF_step (f : Nat) (l : List UInt8) (a : Nat) (h : (open_ l a).2.2 = 0) : allF (f + 1) l a = ((open_ l a).1 :: (allF f l (open_ l a).2.1).1, (allF f l (open_ l a).2.1).2) := by
  rw [allF, if_pos h]
theorem allF_stop (f : Nat) (l : List UInt8) (a : Nat) (h : (open_ l a).2.2 ≠ 0) : allF f l a = ([], a) := by
  cases f with
  | zero => rfl
  | succ f => rw [allF, if_neg h]

/-- texts sealed one behind the other -/
def cat : List (List UInt8) → List UInt8
  | [] => []
  | r :: rs => seal_ r ++ cat rs
theorem cat_append : ∀ (a b : List (List UInt8)), cat (a ++ b) = cat a ++ cat b
  | [], _ => rfl
  | r :: a, b => by simp [cat, cat_append a b]
/-- how many of them are whole in the first k bytes -/
def whole : List (List UInt8) → Nat → Nat
  | [], _ => 0
  | r :: rs, k => if (seal_ r).length ≤ k then whole rs (k - (seal_ r).length) + 1 else 0
theorem all_torn : ∀ (rows : List (List UInt8)) (A : List UInt8) (f k : Nat), (∀ r ∈ rows, r.length ≤ 65536) → ((cat rows).take k).length < f →
    allF f (A ++ (cat rows).take k) A.length = (rows.take (whole rows k), A.length + (cat (rows.take (whole rows k))).length)
  | [], A, f, k, _, _ => by
    have h := open_end (A ++ (cat []).take k)
    simp only [cat, List.take_nil, List.append_nil] at h ⊢
    rw [allF_stop f A A.length h]
    simp
  | r :: rs, A, f, k, hr, hf => by
    have hr0 := hr r (by simp)
    by_cases h : (seal_ r).length ≤ k
    · have e : (cat (r :: rs)).take k = seal_ r ++ (cat rs).take (k - (seal_ r).length) := by
        rw [cat, List.take_append, List.take_of_length_le h]
      rw [e] at hf ⊢
      have ho := open_seal A r ((cat rs).take (k - (seal_ r).length)) hr0
      obtain ⟨f', rfl⟩ : ∃ f', f = f' + 1 := ⟨f - 1, by omega⟩
      rw [allF_step f' _ _ (by rw [ho]), ho]
      simp only
      have ih := all_torn rs (A ++ seal_ r) f' (k - (seal_ r).length) (fun x hx => hr x (by simp [hx])) (by
        rw [List.length_append] at hf
        rw [seal_length] at hf ⊢
        omega)
      rw [List.append_assoc, List.length_append] at ih
      rw [ih, whole, if_pos h, List.take_succ_cons]
      simp only [cat, List.length_append, Prod.mk.injEq, true_and]
      omega
    · have e : (cat (r :: rs)).take k = (seal_ r).take k := by rw [cat, List.take_append_of_le_length (by omega)]
      rw [e]
      have ho := open_at (A ++ (seal_ r).take k) A.length (by simp)
      rw [List.drop_left, open_cut r k hr0 (by omega)] at ho
      rw [allF_stop _ _ _ (by rw [ho]; simp [sh]), whole, if_neg h]
      simp [cat]
theorem all_take (rows : List (List UInt8)) (k : Nat) (h : ∀ r ∈ rows, r.length ≤ 65536) : all_ ((cat rows).take k) = (rows.take (whole rows k), (cat (rows.take (whole rows k))).length) := by
  have := all_torn rows [] (((cat rows).take k).length + 1) k h (Nat.lt_succ_self _)
  simpa [all_] using this
theorem whole_all : ∀ (rows : List (List UInt8)) (k : Nat), (cat rows).length ≤ k → whole rows k = rows.length
  | [], _, _ => rfl
  | r :: rs, k, h => by
    rw [cat, List.length_append] at h
    rw [whole, if_pos (by omega), whole_all rs _ (by omega)]
    rfl
theorem all_cat (rows : List (List UInt8)) (h : ∀ r ∈ rows, r.length ≤ 65536) : all_ (cat rows) = (rows, (cat rows).length) := by
  have := all_take rows (cat rows).length h
  rw [whole_all rows _ (Nat.le_refl _)] at this
  simpa using this
/-- the whole ones are the first ones whose ends are within k -/
theorem whole_ends : ∀ (rows : List (List UInt8)) (k i : Nat), i < rows.length → (i < whole rows k ↔ (cat (rows.take (i + 1))).length ≤ k)
  | [], _, i, h => by simp at h
  | r :: rs, k, 0, _ => by
    rw [whole]
    split
    · simp [cat]; omega
    · simp [cat]; omega
  | r :: rs, k, i + 1, h => by
    rw [whole, List.take_succ_cons, cat, List.length_append]
    split
    · have := whole_ends rs (k - (seal_ r).length) i (by simpa using h)
      omega
    · omega
theorem whole_le : ∀ (rows : List (List UInt8)) (k : Nat), whole rows k ≤ rows.length
  | [], _ => Nat.le_refl _
  | r :: rs, k => by rw [whole]; split <;> simp [whole_le rs]
end Go.Proofs.YtenhncohhikllaaDoor.Ck
