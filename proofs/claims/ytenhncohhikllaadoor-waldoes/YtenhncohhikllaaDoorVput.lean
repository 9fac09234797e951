/-
  The walk of Put.
-/
import Derived.Test.YtenhncohhikllaaDoorVtell
import Derived.Test.YtenhncohhikllaaDoorVclone
namespace Go.Proofs.YtenhncohhikllaaDoor
open Go.ChangeShapes Go.WideShapes Go.ChangeAt Go.RowKit

theorem be_cons : ∀ (k r : Nat), Vn.be (k + 1) r = UInt8.ofNat (r / 256 ^ k) :: Vn.be k r
  | 0, r => by simp [Vn.be]
  | k + 1, r => by
    rw [Vn.be, be_cons k, Vn.be, Nat.pow_succ, Nat.div_div_eq_div_mul, Nat.mul_comm 256]
    simp

/-- what the row of bytes is behind k rounds -/
def rowAt (m r k : Nat) : List UInt8 := List.replicate (m - k) 0 ++ Vn.be k r
theorem rowAt_length (m r k : Nat) (h : k ≤ m) : (rowAt m r k).length = m := by simp [rowAt, Vn.be_length]; omega

theorem byteRow_set (l : List UInt8) (j : Nat) (b : UInt8) : (byteRow l).setIfInBounds j (.int .u8 b.toNat) = byteRow (l.set j b) := by
  simp [byteRow]
theorem rowAt_hole (m r k : Nat) (h : k < m) : rowAt m r k = List.replicate (m - 1 - k) 0 ++ 0 :: Vn.be k r := by
  rw [rowAt, show m - k = m - 1 - k + 1 by omega, List.replicate_succ']
  simp
theorem rowAt_cell (m r k : Nat) (h : k < m) : (byteRow (rowAt m r k))[m - 1 - k]? = some (.int .u8 0) := by
  rw [byteRow_at, rowAt_hole m r k h, List.getElem?_append_right (by simp)]
  simp
theorem u8_of (x : Int) (h : 0 ≤ x) : x % 256 = ((UInt8.ofNat x.toNat).toNat : Int) := by rw [UInt8.toNat_ofNat']; omega
theorem shift_toNat (x : Int) (h : 0 ≤ x) (k : Nat) : (x / 2 ^ (8 * k)).toNat = x.toNat / 256 ^ k := by
  obtain ⟨y, rfl⟩ := Int.eq_ofNat_of_zero_le h
  rw [show (256 : Nat) = 2 ^ 8 from rfl, ← Nat.pow_mul]
  have : ((y : Int) / 2 ^ (8 * k)) = ((y / 2 ^ (8 * k) : Nat) : Int) := by simp
  rw [this, Int.toNat_natCast]
  rfl
theorem rowAt_set (m k r : Nat) (x : Int) (hx : 0 ≤ x) (hr : r = x.toNat) (h : k < m) : (byteRow (rowAt m r k)).setIfInBounds (m - 1 - k) (.int .u8 (x / 2 ^ (8 * k) % 256)) = byteRow (rowAt m r (k + 1)) := by
  subst hr
  rw [u8_of _ (Int.ediv_nonneg hx (Int.pow_nonneg (by decide))), byteRow_set, rowAt_hole m _ k h, shift_toNat x hx, List.set_append_right _ _ (by simp)]
  simp only [List.length_replicate, Nat.sub_self, List.set_cons_zero]
  rw [rowAt, be_cons, show m - (k + 1) = m - 1 - k by omega]

theorem base_le (n : Nat) (h : n < 18446744073709551616) : Vn.vbase (Vn.vsz n - 1) ≤ n := by
  rcases Vn.vsz_cases n h with ⟨h1, e⟩ | ⟨h1, h2, e⟩ | ⟨h1, h2, e⟩ | ⟨h1, h2, h3, h4⟩
  · rw [e]; simp [Vn.vbase]
  · rw [e]; simp [Vn.vbase]; omega
  · rw [e]; simp [Vn.vbase]; omega
  · unfold Vn.vbase; rw [if_neg (by omega), if_neg (by omega)]; omega


theorem ofNat_congr (a b : Nat) (h : a % 256 = b % 256) : UInt8.ofNat a = UInt8.ofNat b := by
  apply UInt8.toNat_inj.1
  rw [UInt8.toNat_ofNat', UInt8.toNat_ofNat']
  exact h
theorem head_eq (a b : Nat) : UInt8.ofNat (((UInt8.ofNat a).toNat : Int) + (b : Int)).toNat = UInt8.ofNat (a + b) := by
  apply ofNat_congr
  rw [UInt8.toNat_ofNat']
  omega

/-- the row at the loop's end, its head raised -/
theorem row_end (n m : Nat) (hn : n < 18446744073709551616) (hm : m = Vn.vsz n) : ∃ c : UInt8, (byteRow (rowAt m (n - Vn.vbase (m - 1)) m))[0]? = some (.int .u8 c.toNat) ∧
    (byteRow (rowAt m (n - Vn.vbase (m - 1)) m)).setIfInBounds 0 (.int .u8 (((c.toNat : Int) + (Vn.vfirst (m - 1) : Int)) % 256)) = byteRow (Vn.vput n) := by
  have hm1 : 1 ≤ m := by rw [hm]; exact (Vn.vsz_pos _).1
  obtain ⟨j, rfl⟩ : ∃ j, m = j + 1 := ⟨m - 1, by omega⟩
  have hr : rowAt (j + 1) (n - Vn.vbase (j + 1 - 1)) (j + 1) = UInt8.ofNat ((n - Vn.vbase j) / 256 ^ j) :: Vn.be j (n - Vn.vbase j) := by
    rw [rowAt, Nat.sub_self, be_cons]; rfl
  rw [hr]
  refine ⟨_, by rw [byteRow_at]; rfl, ?_⟩
  rw [u8_of _ (by omega), byteRow_set, List.set_cons_zero, show j + 1 - 1 = j from rfl, head_eq]
  refine congrArg byteRow ?_
  rcases Vn.vsz_cases n hn with ⟨h1, e⟩ | ⟨h1, h2, e⟩ | ⟨h1, h2, e⟩ | ⟨h1, h2, h3, h4⟩
  · obtain rfl : j = 0 := by omega
    rw [Vn.vput, if_pos h1]
    simp [Vn.vbase, Vn.vfirst, Vn.be]
  · obtain rfl : j = 1 := by omega
    rw [Vn.vput, if_neg (by omega), if_pos h2]
    show [UInt8.ofNat ((n - 240) / 256 ^ 1 + 241), UInt8.ofNat (n - 240)] = _
    rw [Nat.pow_one, Nat.add_comm]
  · obtain rfl : j = 2 := by omega
    rw [Vn.vput, if_neg (by omega), if_neg (by omega), if_pos h2]
    show UInt8.ofNat ((n - 2288) / 256 ^ 2 + 249) :: Vn.be 2 (n - 2288) = _
    rw [Nat.div_eq_of_lt (by omega)]
    rfl
  · rw [Vn.vput, if_neg (by omega), if_neg (by omega), if_neg (by omega)]
    simp only [Vn.vbase, Vn.vfirst, if_neg (show ¬ j = 1 by omega), if_neg (show ¬ j = 2 by omega), if_neg (show ¬ j = 0 by omega), Nat.sub_zero]
    rw [← hm] at h4 ⊢
    simp only [Nat.add_sub_cancel] at h4 ⊢
    rw [Nat.div_eq_of_lt h4, show 0 + (247 + j) = 246 + (j + 1) from by omega]

theorem conv_row (W : World) (l : List UInt8) (k g : Nat) (B : Array Value) (hk : l.length = k) (hB : B = byteRow l) (hg : g = W.heap.size) :
    (convert 89 9 (.slice (some ⟨g, 0, none⟩) k k)).run Tryd.prog ((W.alloc (.cells B 5)).drew) = .ok (.string ⟨l.toArray⟩) ((W.alloc (.cells B 5)).drew) := by
  subst hk hB hg
  refine run_convert_bytes_back _ _ _ 5 _ _ l Tryd.underlying89 Tryd.underlying5 Tryd.underlying9 fun j hj => ?_
  show (W.alloc _).cell? ((⟨W.heap.size, 0, none⟩ : Addr).add j) = _
  have hadd : (⟨W.heap.size, 0, none⟩ : Addr).add j = ⟨W.heap.size, j, none⟩ := by unfold Addr.add; split <;> simp_all
  rw [hadd, World.cell?_alloc_at _ _ _ _ rfl, byteRow_at, List.getElem?_eq_getElem hj]
  rfl

set_option maxHeartbeats 1000000 in
set_option maxRecDepth 100000 in
theorem put_any (n : Int) (w : World) (h0 : 0 ≤ n) (h1 : n ≤ 18446744073709551615) (hT : Tab w) :
    Calls Tryd.prog 65 #[.int .u64 n] w fun e w' => e = .returned (str (Vn.vput n.toNat)) ∧ Kept w w' := by
  obtain ⟨m, hm⟩ : ∃ m, m = Vn.vsz n.toNat := ⟨_, rfl⟩
  have hm1 : 1 ≤ m := by rw [hm]; exact (Vn.vsz_pos _).1
  have hm9 : m ≤ 9 := by rw [hm]; exact (Vn.vsz_pos _).2
  have c1 := hT.first (m - 1) (by omega)
  have c2 := hT.base (m - 1) (by omega)
  have c3 := hT.top (m - 1) (by omega)
  have hb : (Vn.vbase (m - 1) : Int) ≤ n := by have := base_le n.toNat (by omega); rw [← hm] at this; omega
  have Hm := Lib.hid hm
  clear hm
  obtain ⟨r, hr⟩ : ∃ r, r = n.toNat - Vn.vbase (m - 1) := ⟨_, rfl⟩
  have Hr := Lib.hid hr
  clear hr
  have hmk := make_bytes m (by omega)
  rw [show List.replicate m 0 = rowAt m r 0 from by simp [rowAt, Vn.be]] at hmk
  go_enter Tryd.func65, Tryd.ntmps65
  go_wp2_with fail
  refine (size_any n _ h0 h1 hT).mono ?_
  rintro e w' ⟨rfl, rfl⟩
  rw [← Hm.out]
  go_wp2
  go_loopw [7, 21] (fun _ i wr => ∃ k : Nat, k ≤ m ∧ i = .int .i64 k ∧ wr = (w.alloc (.cells #[.int .u8 (Vn.vfirst (m - 1)), .int .u64 (Vn.vbase (m - 1)), .int .u64 (Vn.vtop (m - 1))] 117)).alloc (.cells (byteRow (rowAt m r k)) 5)) (fun _ i _ => m - (intOf i).toNat)
  case atStart => exact ⟨0, by omega, rfl, rfl⟩
  case round =>
    obtain ⟨k, hk, rfl, rfl⟩ := hrel
    by_cases hlt : k < m
    · have hcell := rowAt_cell m r k hlt
      have Hset := Lib.hid (rowAt_set m k r (n - (Vn.vbase (m - 1) : Int)) (by omega) (by rw [Hr.out]; omega) hlt)
      go_wp2
      go_roundw
      case rel => exact ⟨k + 1, by omega, by go_num, by rw [Hset.out]⟩
      case measure => simp [intOf]; omega
    · obtain rfl : k = m := by omega
      obtain ⟨c, hc1, hc2⟩ := row_end n.toNat k (by omega) Hm.out
      rw [← Hr.out] at hc1 hc2
      have Hc2 := Lib.hid hc2
      clear hc2
      have p0 : 0 < k := hm1
      have hcv := conv_row (w.alloc (.cells #[.int .u8 (Vn.vfirst (k - 1)), .int .u64 (Vn.vbase (k - 1)), .int .u64 (Vn.vtop (k - 1))] 117)) (Vn.vput n.toNat) k (w.heap.size + 1) _ (by rw [Vn.vput_length, Hm.out]) Hc2.out (by simp)
      go_wp2
      go_region
      all_goals go_wp2
      all_goals go_ret
      all_goals exact ⟨rfl, Kept.drew (Kept.alloc (Kept.alloc (Kept.refl _) _) _)⟩
end Go.Proofs.YtenhncohhikllaaDoor
