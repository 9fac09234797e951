/-
  The plain mathematics of numbers as bytes: what Put, Size, Get, Text and Cut of the document are, as functions, and that what is put is got.
  It imports nothing of the program.
-/
namespace Go.Proofs.YtenhncohhikllaaDoor.Vn

/-- a number in k bytes, the highest one first -/
def be : Nat → Nat → List UInt8
  | 0, _ => []
  | k + 1, r => be k (r / 256) ++ [UInt8.ofNat r]

/-- the number that bytes tell, the highest one first -/
def num (l : List UInt8) : Nat := l.foldl (fun n b => n * 256 + b.toNat) 0

def vtop (k : Nat) : Nat := if k = 0 then 240 else if k = 1 then 2287 else if k = 2 then 67823 else if k = 3 then 16777215 else if k = 4 then 4294967295 else if k = 5 then 1099511627775 else if k = 6 then 281474976710655 else if k = 7 then 72057594037927935 else 18446744073709551615
def vbase (k : Nat) : Nat := if k = 1 then 240 else if k = 2 then 2288 else 0
def vfirst (k : Nat) : Nat := if k = 0 then 0 else if k = 1 then 241 else 247 + k

/-- how many bytes -/
def vsz (n : Nat) : Nat := if n ≤ 240 then 1 else if n ≤ 2287 then 2 else if n ≤ 67823 then 3 else if n ≤ 16777215 then 4 else if n ≤ 4294967295 then 5 else if n ≤ 1099511627775 then 6 else if n ≤ 281474976710655 then 7 else if n ≤ 72057594037927935 then 8 else 9

/-- a number's bytes -/
def vput (n : Nat) : List UInt8 :=
  if n ≤ 240 then [UInt8.ofNat n] else if n ≤ 2287 then [UInt8.ofNat (241 + (n - 240) / 256), UInt8.ofNat (n - 240)] else
  if n ≤ 67823 then 249 :: be 2 (n - 2288) else UInt8.ofNat (246 + vsz n) :: be (vsz n - 1) n

/-- how many bytes a first byte asks for -/
def need (c : Nat) : Nat := if c ≤ 240 then 1 else if c ≤ 248 then 2 else if c = 249 then 3 else c - 246

/-- the number that bytes tell, the first one among them -/
def tell : List UInt8 → Nat
  | [] => 0
  | c :: r => if c.toNat ≤ 240 then c.toNat else if c.toNat ≤ 248 then 240 + 256 * (c.toNat - 241) + num r else if c.toNat = 249 then 2288 + num r else num r

theorem vsz_pos (n : Nat) : 1 ≤ vsz n ∧ vsz n ≤ 9 := by unfold vsz; (repeat' split) <;> omega
theorem need_pos (c : Nat) (h : c < 256) : 1 ≤ need c ∧ need c ≤ 9 := by unfold need; (repeat' split) <;> omega

theorem be_length : ∀ (k r : Nat), (be k r).length = k
  | 0, _ => rfl
  | k + 1, r => by simp [be, be_length k]

theorem num_snoc (l : List UInt8) (b : UInt8) : num (l ++ [b]) = num l * 256 + b.toNat := by simp [num]

theorem num_be : ∀ (k r : Nat), num (be k r) = r % 256 ^ k
  | 0, r => by simp [be, num, Nat.mod_one]
  | k + 1, r => by
    rw [be, num_snoc, num_be k, Nat.pow_succ, UInt8.toNat_ofNat', Nat.mul_comm (256 ^ k) 256, Nat.mod_mul]
    omega

theorem revInd {P : List UInt8 → Prop} (h0 : P []) (h1 : ∀ l b, P l → P (l ++ [b])) (l : List UInt8) : P l := by
  have h : ∀ m : List UInt8, P m.reverse := fun m => by
    induction m with
    | nil => exact h0
    | cons a m ih => rw [List.reverse_cons]; exact h1 _ _ ih
  simpa using h l.reverse

theorem num_lt (l : List UInt8) : num l < 256 ^ l.length := by
  induction l using revInd with
  | h0 => simp [num]
  | h1 l b ih =>
    rw [num_snoc, List.length_append, List.length_singleton, Nat.pow_succ]
    have := b.toNat_lt
    omega

theorem be_num (l : List UInt8) : be l.length (num l) = l := by
  induction l using revInd with
  | h0 => simp [be]
  | h1 l b ih =>
    rw [List.length_append, List.length_singleton, be, num_snoc]
    have hb := b.toNat_lt
    have h1 : (num l * 256 + b.toNat) / 256 = num l := by omega
    have h2 : UInt8.ofNat (num l * 256 + b.toNat) = b := by
      apply UInt8.toNat_inj.1
      rw [UInt8.toNat_ofNat']
      omega
    rw [h1, ih, h2]

theorem num_one (b : UInt8) : num [b] = b.toNat := by simp [num]

/-- a number's class -/
theorem vsz_cases (n : Nat) (h : n < 18446744073709551616) :
    (n ≤ 240 ∧ vsz n = 1) ∨ (240 < n ∧ n ≤ 2287 ∧ vsz n = 2) ∨ (2287 < n ∧ n ≤ 67823 ∧ vsz n = 3) ∨ (67823 < n ∧ 4 ≤ vsz n ∧ vsz n ≤ 9 ∧ n < 256 ^ (vsz n - 1)) := by
  unfold vsz
  by_cases h1 : n ≤ 240
  · simp [h1]
  by_cases h2 : n ≤ 2287
  · simp [h1, h2]; omega
  by_cases h3 : n ≤ 67823
  · simp [h1, h2, h3]; omega
  refine .inr (.inr (.inr ⟨by omega, ?_⟩))
  rw [if_neg h1, if_neg h2, if_neg h3]
  (repeat' split) <;> refine ⟨by decide, by decide, ?_⟩ <;> simp <;> omega

theorem vput_length (n : Nat) : (vput n).length = vsz n := by
  unfold vput
  by_cases h1 : n ≤ 240
  · simp [h1, vsz]
  by_cases h2 : n ≤ 2287
  · simp [h1, h2, vsz]
  by_cases h3 : n ≤ 67823
  · simp [h1, h2, h3, vsz, be_length]
  · have := vsz_pos n
    simp [h1, h2, h3, be_length]
    omega

theorem ofNat_toNat (n : Nat) (h : n < 256) : (UInt8.ofNat n).toNat = n := by rw [UInt8.toNat_ofNat']; omega

theorem ofNat_eq (n : Nat) (c : UInt8) (h : n % 256 = c.toNat) : UInt8.ofNat n = c := by
  apply UInt8.toNat_inj.1
  rw [UInt8.toNat_ofNat']
  omega

theorem vput_head (n : Nat) (h : n < 18446744073709551616) : ∃ c r, vput n = c :: r ∧ need c.toNat = vsz n ∧ tell (c :: r) = n := by
  rcases vsz_cases n h with ⟨h1, e⟩ | ⟨h1, h2, e⟩ | ⟨h1, h2, e⟩ | ⟨h1, h2, h3, h4⟩
  · refine ⟨_, _, by rw [vput, if_pos h1], ?_, ?_⟩
    · rw [ofNat_toNat _ (by omega), e, need, if_pos h1]
    · rw [tell, ofNat_toNat _ (by omega), if_pos h1]
  · refine ⟨_, _, by rw [vput, if_neg (by omega), if_pos h2], ?_, ?_⟩
    · rw [ofNat_toNat _ (by omega), e, need, if_neg (by omega), if_pos (by omega)]
    · rw [tell, ofNat_toNat _ (by omega), if_neg (by omega), if_pos (by omega), num_one, UInt8.toNat_ofNat']
      omega
  · refine ⟨_, _, by rw [vput, if_neg (by omega), if_neg (by omega), if_pos h2], ?_, ?_⟩
    · rw [e]; rfl
    · rw [tell, show (249 : UInt8).toNat = 249 from rfl, if_neg (by omega), if_neg (by omega), if_pos rfl, num_be]
      omega
  · refine ⟨_, _, by rw [vput, if_neg (by omega), if_neg (by omega), if_neg (by omega)], ?_, ?_⟩
    · rw [ofNat_toNat _ (by omega), need, if_neg (by omega), if_neg (by omega), if_neg (by omega)]
      omega
    · rw [tell, ofNat_toNat _ (by omega), if_neg (by omega), if_neg (by omega), if_neg (by omega), num_be, Nat.mod_eq_of_lt h4]

theorem vput_tell (c : UInt8) (r : List UInt8) (h : (c :: r).length = need c.toNat) (hs : vsz (tell (c :: r)) = need c.toNat) : vput (tell (c :: r)) = c :: r := by
  have hc := c.toNat_lt
  have hl := num_lt r
  have hb := be_num r
  rw [List.length_cons] at h
  simp only [need] at h hs
  simp only [tell] at hs ⊢
  by_cases h1 : c.toNat ≤ 240
  · simp only [if_pos h1] at h hs ⊢
    have : r = [] := List.eq_nil_of_length_eq_zero (by omega)
    rw [this, vput, if_pos h1, UInt8.ofNat_toNat]
  simp only [if_neg h1] at h hs ⊢
  by_cases h2 : c.toNat ≤ 248
  · simp only [if_pos h2] at h hs ⊢
    obtain ⟨b, rfl⟩ := List.length_eq_one_iff.1 (show r.length = 1 by omega)
    rw [num_one] at hs ⊢
    have hbt := b.toNat_lt
    rcases vsz_cases (240 + 256 * (c.toNat - 241) + b.toNat) (by omega) with ⟨k1, e⟩ | ⟨k1, k2, e⟩ | ⟨k1, k2, e⟩ | ⟨k1, k2, k3, k4⟩
    · omega
    · rw [vput, if_neg (by omega), if_pos k2, ofNat_eq _ c (by omega), ofNat_eq _ b (by omega)]
    · omega
    · omega
  simp only [if_neg h2] at h hs ⊢
  by_cases h3 : c.toNat = 249
  · simp only [if_pos h3] at h hs ⊢
    have hlen : r.length = 2 := by omega
    rw [hlen] at hl hb
    rcases vsz_cases (2288 + num r) (by omega) with ⟨k1, e⟩ | ⟨k1, k2, e⟩ | ⟨k1, k2, e⟩ | ⟨k1, k2, k3, k4⟩
    · omega
    · omega
    · rw [vput, if_neg (by omega), if_neg (by omega), if_pos k2, show 2288 + num r - 2288 = num r from by omega, hb]
      rw [show c = 249 from UInt8.toNat_inj.1 (by rw [h3]; rfl)]
    · omega
  simp only [if_neg h3] at h hs ⊢
  have hlen : r.length = c.toNat - 247 := by omega
  have h64 : num r < 18446744073709551616 := by
    have : 256 ^ r.length ≤ 256 ^ 8 := Nat.pow_le_pow_right (by decide) (by omega)
    omega
  rcases vsz_cases (num r) h64 with ⟨k1, e⟩ | ⟨k1, k2, e⟩ | ⟨k1, k2, e⟩ | ⟨k1, k2, k3, k4⟩
  · omega
  · omega
  · omega
  · rw [vput, if_neg (by omega), if_neg (by omega), if_neg (by omega), hs, show c.toNat - 246 - 1 = r.length from by omega, hb, ofNat_eq _ c (by omega)]
end Go.Proofs.YtenhncohhikllaaDoor.Vn
