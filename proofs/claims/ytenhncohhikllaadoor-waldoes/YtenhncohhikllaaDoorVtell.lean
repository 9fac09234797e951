/-
  The walks of sizeBehind and tell.
-/
import Derived.Test.YtenhncohhikllaaDoorVbase
import Derived.Laws.BitsAllLaws
namespace Go.Proofs.YtenhncohhikllaaDoor
open Go.ChangeShapes Go.WideShapes Go.ChangeAt Go.RowKit

theorem sz_found (n k : Nat) (hk : k < 9) (h : ∀ j, j < k → Vn.vtop j < n) (hn : n ≤ Vn.vtop k) : Vn.vsz n = k + 1 := by
  have h0 := h 0; have h1 := h 1; have h2 := h 2; have h3 := h 3; have h4 := h 4; have h5 := h 5; have h6 := h 6; have h7 := h 7
  match k, hk with
  | 0, _ | 1, _ | 2, _ | 3, _ | 4, _ | 5, _ | 6, _ | 7, _ | 8, _ => simp [Vn.vtop] at h0 h1 h2 h3 h4 h5 h6 h7 hn; simp only [Vn.vsz]; (repeat' split) <;> omega

set_option maxHeartbeats 400000 in
theorem size_any (n : Int) (w : World) (h0 : 0 ≤ n) (h1 : n ≤ 18446744073709551615) (hT : Tab w) :
    Calls Tryd.prog 82 #[.int .u64 n] w fun e w' => e = .returned (.int .i64 (Vn.vsz n.toNat)) ∧ w = w' := by
  go_enter Tryd.func82, Tryd.ntmps82
  go_wp2
  go_loop [3, 4] (fun _ i => ∃ k : Nat, k ≤ 9 ∧ i = .int .i64 k ∧ ∀ j, j < k → Vn.vtop j < n.toNat) (fun _ i => 9 - (intOf i).toNat)
  case atStart => exact ⟨0, Nat.zero_le _, rfl, by omega⟩
  case round =>
    obtain ⟨k, hk, rfl, hlt⟩ := hrel
    have Hlt := Lib.hid hlt
    clear hlt
    by_cases hk9 : k < 9
    · have hc := hT.top k hk9
      by_cases hn : n ≤ (Vn.vtop k : Int)
      · go_wp2
        go_ret
        exact ⟨ret_int (by rw [sz_found n.toNat k hk9 Hlt.out (by omega)]; omega), rfl⟩
      · go_wp2
        go_round
        case rel => exact ⟨k + 1, by omega, by go_num, fun j hj => by
                      by_cases e : j = k
                      · subst e; omega
                      · exact Hlt.out j (by omega)⟩
        case measure => simp [intOf]; omega
    · exfalso
      have := Hlt.out 8 (by omega)
      simp [Vn.vtop] at this
      omega
end Go.Proofs.YtenhncohhikllaaDoor

namespace Go.Proofs.YtenhncohhikllaaDoor
open Go.ChangeShapes Go.WideShapes Go.ChangeAt Go.RowKit

def sb (c : Nat) : Nat → Nat
  | 0 => 1
  | k + 1 => if Vn.vfirst k ≤ c then k + 1 else sb c k
theorem sb_le (c : Nat) : ∀ k, sb c k ≤ k + 1
  | 0 => Nat.le_refl _
  | k + 1 => by have := sb_le c k; unfold sb; split <;> omega
theorem sb_need (c : Nat) (h : c < 256) : sb c 9 = Vn.need c := by
  simp only [sb, Vn.vfirst, Vn.need]
  simp
  (repeat' split) <;> omega

set_option maxHeartbeats 400000 in
theorem sizeBehind_any (c : Int) (w : World) (h0 : 0 ≤ c) (h1 : c ≤ 255) (hT : Tab w) :
    Calls Tryd.prog 88 #[.int .u8 c] w fun e w' => e = .returned (.int .i64 (Vn.need c.toNat)) ∧ w = w' := by
  go_enter Tryd.func88, Tryd.ntmps88
  go_wp2
  go_loop [3, 4, 5] (fun s _ i => ∃ k : Nat, k ≤ 9 ∧ i = .int .i64 k ∧ s = .int .i64 (sb c.toNat k)) (fun _ _ i => 9 - (intOf i).toNat)
  case atStart => exact ⟨0, Nat.zero_le _, rfl, rfl⟩
  case round =>
    obtain ⟨k, hk, rfl, rfl⟩ := hrel
    by_cases hk9 : k < 9
    · have hc := hT.first k hk9
      by_cases hn : (Vn.vfirst k : Int) ≤ c
      · go_wp2
        go_round
        case rel => exact ⟨k + 1, by omega, by go_num, by rw [sb, if_pos (by omega)]; go_num⟩
        case measure => simp [intOf]; omega
      · go_wp2
        go_round
        case rel => exact ⟨k + 1, by omega, by go_num, by rw [sb, if_neg (by omega)]⟩
        case measure => simp [intOf]; omega
    · obtain rfl : k = 9 := by omega
      go_wp2
      go_ret
      exact ⟨ret_int (by rw [sb_need _ (by omega)]), rfl⟩

/-- the number that is told so far -/
def acc (a : Nat) (l : List UInt8) : Nat := l.foldl (fun n b => n * 256 + b.toNat) a
theorem acc_snoc (a : Nat) (l : List UInt8) (b : UInt8) : acc a (l ++ [b]) = acc a l * 256 + b.toNat := by simp [acc]

theorem acc_lt (a : Nat) (l : List UInt8) : acc a l < (a + 1) * 256 ^ l.length := by
  induction l using Vn.revInd with
  | h0 => simp [acc]
  | h1 l b ih =>
    rw [acc_snoc, List.length_append, List.length_singleton, Nat.pow_succ]
    have := b.toNat_lt
    have e : (a + 1) * (256 ^ l.length * 256) = (a + 1) * 256 ^ l.length * 256 := by rw [Nat.mul_assoc]
    omega

theorem tell_first (c n : Nat) (h0 : 1 ≤ n) (hc : c < 256) (h : Vn.need c = n) : Vn.vfirst (n - 1) ≤ c ∧ (n = 1 ∨ (n = 2 ∧ c - Vn.vfirst (n - 1) ≤ 7) ∨ (3 ≤ n ∧ n ≤ 9 ∧ c - Vn.vfirst (n - 1) = 0)) := by
  subst h
  simp only [Vn.need, Vn.vfirst]
  (repeat' split) <;> omega

theorem tell_bound (c n k : Nat) (l : List UInt8) (hc : c < 256) (h : Vn.need c = n) (hk : k + 1 < n) (hl : l.length ≤ k) : acc (c - Vn.vfirst (n - 1)) l < 72057594037927936 := by
  have h1 := acc_lt (c - Vn.vfirst (n - 1)) l
  obtain ⟨_, h3⟩ := tell_first c n (by omega) hc h
  rcases h3 with h3 | ⟨h3, h4⟩ | ⟨h3, h4, h5⟩
  · omega
  · have : l.length = 0 := by omega
    rw [this] at h1
    omega
  · rw [h5] at h1 ⊢
    have : 256 ^ l.length ≤ 256 ^ 7 := Nat.pow_le_pow_right (by decide) (by omega)
    omega

theorem tell_eq (c : UInt8) (r : List UInt8) (h : Vn.need c.toNat = r.length + 1) :
    acc (c.toNat - Vn.vfirst r.length) r + Vn.vbase r.length = Vn.tell (c :: r) ∧ Vn.tell (c :: r) ≤ 18446744073709551615 := by
  have hc := c.toNat_lt
  obtain ⟨h2, h3⟩ := tell_first c.toNat _ (by omega) hc h
  simp only [Nat.add_sub_cancel] at h2 h3
  unfold Vn.need at h
  have hl := Vn.num_lt r
  by_cases h1 : c.toNat ≤ 240
  · simp only [if_pos h1] at h
    have : r = [] := List.eq_nil_of_length_eq_zero (by omega)
    subst this
    simp [acc, Vn.tell, h1, Vn.vbase, Vn.vfirst]
    omega
  simp only [if_neg h1] at h
  by_cases h4 : c.toNat ≤ 248
  · simp only [if_pos h4] at h
    obtain ⟨b, rfl⟩ := List.length_eq_one_iff.1 (show r.length = 1 by omega)
    have hb := b.toNat_lt
    simp [acc, Vn.tell, h1, h4, Vn.vbase, Vn.vfirst, Vn.num]
    omega
  simp only [if_neg h4] at h
  have h0 : c.toNat - Vn.vfirst r.length = 0 := by
    split at h
    · omega
    · omega
  have ha : acc (c.toNat - Vn.vfirst r.length) r = Vn.num r := by rw [h0]; rfl
  rw [ha]
  by_cases h5 : c.toNat = 249
  · simp only [if_pos h5] at h
    have : r.length = 2 := by omega
    rw [this] at hl ⊢
    simp [Vn.tell, h5, Vn.vbase]
    omega
  · simp only [if_neg h5] at h
    have : 256 ^ r.length ≤ 256 ^ 8 := Nat.pow_le_pow_right (by decide) (by omega)
    simp only [Vn.tell, if_neg h1, if_neg h4, if_neg h5, Vn.vbase, if_neg (show ¬ r.length = 1 by omega), if_neg (show ¬ r.length = 2 by omega)]
    omega

theorem or_byte (a b : Nat) (ha : a < 72057594037927936) (hb : b < 256) : bits BinOp.or IntKind.u64 ((a : Int) * 256) (IntKind.u64.wrap (b : Int)) = ((a * 256 + b : Nat) : Int) := by
  have h1 : (a : Int) * 256 = ((a * 256 : Nat) : Int) := by omega
  have h2 : IntKind.u64.wrap (b : Int) = ((b : Nat) : Int) := by simp [IntKind.wrap, IntKind.signed, IntKind.bits]; omega
  rw [h1, h2, u64_or_nat _ _ (by omega) (by omega), nat_join8 _ _ (by omega) (by omega)]

/-- the bytes behind the first one -/
def behind (s : ByteArray) : List UInt8 := s.data.toList.drop 1
theorem behind_at (s : ByteArray) (k : Nat) (h : k + 1 < s.size) : (behind s)[k]? = some s[k + 1] := by
  have h' : k + 1 < s.data.size := h
  rw [behind, List.getElem?_drop, Nat.add_comm, Array.getElem?_toList, Array.getElem?_eq_getElem h']
  rfl
theorem behind_snoc (s : ByteArray) (k : Nat) (h : k + 1 < s.size) : (behind s).take (k + 1) = (behind s).take k ++ [s[k + 1]] := by
  rw [List.take_add_one, behind_at s k h]
  rfl
theorem head_behind (s : ByteArray) (h : 0 < s.size) : s.data.toList = s[0] :: behind s := by
  have h' : 0 < s.data.size := h
  obtain ⟨⟨l⟩⟩ := s
  match l, h with
  | c :: r, _ => rfl
theorem behind_length (s : ByteArray) : (behind s).length = s.size - 1 := by simp only [behind, List.length_drop, Array.length_toList]; rfl

set_option maxHeartbeats 400000 in
theorem tell_any (s : ByteArray) (w : World) (h0 : 1 ≤ s.size) (h1 : s.size ≤ 9) (hn : Vn.need (s[0]'h0).toNat = s.size) (hT : Tab w) :
    Calls Tryd.prog 89 #[.string s] w fun e w' => e = .returned (.int .u64 (Vn.tell s.data.toList)) ∧ Kept w w' := by
  have c1 := hT.first (s.size - 1) (by omega)
  have c2 := hT.base (s.size - 1) (by omega)
  have c3 := hT.top (s.size - 1) (by omega)
  have Hn := Lib.hid hn
  clear hn
  have p0 : 0 < s.size := h0
  have p1 : (0 : Int) < (s.size : Int) := by omega
  have hc := (s[0]'h0).toNat_lt
  have hf := (tell_first _ _ h0 hc Hn.out).1
  have ht := tell_eq (s[0]'h0) (behind s) (by rw [behind_length, Hn.out]; omega)
  rw [behind_length, ← head_behind s h0] at ht
  have Ht := Lib.hid ht.1
  have ht2 := ht.2
  clear ht
  have Hs := Lib.hid (behind_length s)
  go_enter Tryd.func89, Tryd.ntmps89
  go_wp2
  go_quiet (fail)
  go_wp2
  go_loop [4, 5, 20] (fun n _ i => ∃ k : Nat, k + 1 ≤ s.size ∧ i = .int .i64 k ∧ n = .int .u64 (acc ((s[0]'h0).toNat - Vn.vfirst (s.size - 1)) ((behind s).take k))) (fun _ _ i => s.size - (intOf i).toNat)
  case atStart => exact ⟨0, by omega, rfl, by simp [acc]; omega⟩
  case round =>
    obtain ⟨k, hk, rfl, rfl⟩ := hrel
    by_cases hk9 : k + 1 < s.size
    · have hB := tell_bound _ s.size k ((behind s).take k) hc Hn.out hk9 (List.length_take_le _ _)
      go_wp2
      go_round
      case rel => exact ⟨k + 1, by omega, by go_num, by rw [or_byte _ _ hB (s[k + 1]).toNat_lt, behind_snoc s k hk9, acc_snoc]⟩
      case measure => simp [intOf]; omega
    · obtain rfl : k = s.size - 1 := by omega
      have hz : acc ((s[0]'h0).toNat - Vn.vfirst (s.size - 1)) ((behind s).take (s.size - 1)) + Vn.vbase (s.size - 1) ≤ 18446744073709551615 := by
        rw [List.take_of_length_le (by rw [Hs.out]; exact Nat.le_refl _), Ht.out]; exact ht2
      go_wp2
      go_ret
      refine ⟨ret_int ?_, ?_⟩
      · rw [← Ht.out, List.take_of_length_le (by rw [Hs.out]; exact Nat.le_refl _)]; omega
      · exact below_drewN (Kept.alloc (Kept.refl w) _) _
end Go.Proofs.YtenhncohhikllaaDoor
