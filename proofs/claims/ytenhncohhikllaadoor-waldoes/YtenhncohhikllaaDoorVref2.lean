/-
  The walks of the document's own Put, Text and Less.
-/
import Derived.Test.YtenhncohhikllaaDoorVback
import Derived.Test.YtenhncohhikllaaDoorVless
import Derived.Deep.RegionHeld3
namespace Go.Proofs.YtenhncohhikllaaDoor
open Go.ChangeShapes Go.WideShapes Go.ChangeAt Go.RowKit

theorem conv_one (c : Int) (b : UInt8) (hb : c = (b.toNat : Int)) (W : World) (g cap : Nat) (h : W.cell? ⟨g, 0, none⟩ = some (.int .u8 c)) :
    (convert 89 9 (.slice (some ⟨g, 0, none⟩) 1 cap)).run Tryd.prog W = .ok (.string ⟨#[b]⟩) W := by
  subst hb
  refine run_convert_bytes_back W _ _ 5 _ cap [b] Tryd.underlying89 Tryd.underlying5 Tryd.underlying9 fun j hj => ?_
  have hj0 : j = 0 := by simpa using hj
  subst hj0
  exact h

set_option maxHeartbeats 1000000 in
theorem big_step (n : Int) (k : Nat) (w : World) (h0 : 0 ≤ n) (h1 : n ≤ 18446744073709551615) (hk : k + 1 ≤ 100)
    (ih : Hid (∀ (W : World) (a b : Int), a = n / 256 → b = (k : Int) → Calls Tryd.prog 84 #[.int .u64 a, .int .i64 b] W fun e w' => e = .returned (str (Vn.be k (n / 256).toNat)) ∧ Kept W w')) :
    Calls Tryd.prog 84 #[.int .u64 n, .int .i64 ((k : Int) + 1)] w fun e w' => e = .returned (str (Vn.be (k + 1) n.toNat)) ∧ Kept w w' := by
  have hcv := conv_one (n % 256) (UInt8.ofNat n.toNat) (by rw [UInt8.toNat_ofNat']; omega)
  obtain ⟨p, hp, sp⟩ : ∃ p : ByteArray, str (Vn.be k (n / 256).toNat) = .string p ∧ p.size = k := ⟨⟨(Vn.be k (n / 256).toNat).toArray⟩, rfl, by show (Vn.be k (n / 256).toNat).toArray.size = k; simp [Vn.be_length]⟩
  have hps : p.size ≤ 100 := by omega
  have Hp := Lib.hid hp
  clear hp sp
  have hk1 : (((k : Int) + 1) == 0) = false := by simp only [beq_eq_false_iff_ne]; omega
  have r1 : n.tdiv 256 = n / 256 := Int.tdiv_eq_ediv_of_nonneg h0
  have r2 : IntKind.u64.wrap (n / 256) = n / 256 := by simp [IntKind.wrap, IntKind.signed, IntKind.bits]; omega
  have r3 : IntKind.i64.wrap (k : Int) = (k : Int) := by rw [IntKind.wrap_i64]; omega
  have r4 : n.tmod 256 = n % 256 := Int.tmod_eq_emod_of_nonneg h0
  have r5 : IntKind.u8.wrap (n % 256) = n % 256 := by simp [IntKind.wrap, IntKind.signed, IntKind.bits]
  go_enter Tryd.func84, Tryd.ntmps84
  go_wp2_with fail
  go_region_with (first
    | (go_at_call 84; refine (ih.out _ _ _ rfl rfl).mono ?_; rintro e w1 ⟨rfl, e1⟩; rw [Hp.out]; have hold := fun b o h => Below.cell e1 (p := ⟨b, o, none⟩) h))
  all_goals
    clear hold
    go_wp2
    go_ret
    refine ⟨?_, ?_⟩
    · refine Eq.trans (b := Ending.returned (.string (p ++ ⟨#[UInt8.ofNat n.toNat]⟩))) rfl ?_
      have hp := Hp.out
      unfold str at hp
      simp only [Value.string.injEq] at hp
      rw [← hp, str, Vn.be, show (n / 256).toNat = n.toNat / 256 by omega, str_append]
    · first
      | exact ((Kept.drew (Kept.refl w)).trans e1).alloc _
      | exact (Kept.drew (Kept.alloc (Kept.refl w) _)).trans e1
theorem big_any : ∀ (k : Nat) (n : Int) (w : World), 0 ≤ n → n ≤ 18446744073709551615 → k ≤ 100 →
    Calls Tryd.prog 84 #[.int .u64 n, .int .i64 (k : Int)] w fun e w' => e = .returned (str (Vn.be k n.toNat)) ∧ Kept w w'
  | 0, n, w, _, _, _ => by
    go_enter Tryd.func84, Tryd.ntmps84
    go_wp2
    go_ret
    exact ⟨rfl, Kept.refl _⟩
  | k + 1, n, w, h0, h1, hk => by
    have ih := big_any k
    have h := big_step n k w h0 h1 hk (fun W a b ha hb => by subst ha hb; exact ih (n / 256) W (by omega) (by omega) (by omega))
    rw [Int.natCast_add]
    exact h
end Go.Proofs.YtenhncohhikllaaDoor

namespace Go.Proofs.YtenhncohhikllaaDoor
open Go.ChangeShapes Go.WideShapes Go.ChangeAt Go.RowKit

theorem be_one (x : Nat) : Vn.be 1 x = [UInt8.ofNat x] := by simp [Vn.be]

/-- k bytes so far -/
def TakenR (n k : Nat) : Prop := 3 ≤ k ∧ k ≤ 8 ∧ (k = 3 ∨ 256 ^ (k - 1) ≤ n)
theorem takenR_next (n k : Nat) (hn : n < 18446744073709551616) (h3 : 3 ≤ k) (hp : 0 < n / 256 ^ k) : TakenR n (k + 1) ∧ n / 256 ^ k / 256 = n / 256 ^ (k + 1) := by
  have hle : 256 ^ k ≤ n := by
    rcases Nat.lt_or_ge n (256 ^ k) with h' | h'
    · rw [Nat.div_eq_of_lt h'] at hp; omega
    · exact h'
  refine ⟨⟨by omega, ?_, .inr hle⟩, by rw [Nat.div_div_eq_div_mul, Nat.pow_succ]⟩
  rcases Nat.lt_or_ge k 8 with h8 | h8
  · omega
  · have : 256 ^ 8 ≤ 256 ^ k := Nat.pow_le_pow_right (by decide) h8
    omega
theorem takenR_end (n k : Nat) (h : TakenR n k) (hz : n / 256 ^ k = 0) (hn : 67823 < n) : Vn.vsz n = k + 1 := by
  have hlt : n < 256 ^ k := by
    rcases Nat.lt_or_ge n (256 ^ k) with h' | h'
    · exact h'
    · have := Nat.div_pos h' (Nat.pow_pos (by decide : 0 < 256)); omega
  obtain ⟨h3, h8, h1⟩ := h
  unfold Vn.vsz
  match k, h3, h8 with
  | 3, _, _ | 4, _, _ | 5, _, _ | 6, _, _ | 7, _, _ | 8, _, _ => simp at h1 hlt; (repeat' split) <;> omega
theorem vput_long (n k : Nat) (h : Vn.vsz n = k + 1) (hn : 67823 < n) : Vn.vput n = Vn.be 1 (247 + k) ++ Vn.be k n := by
  rw [Vn.vput, if_neg (by omega), if_neg (by omega), if_neg (by omega), h, be_one, show 246 + (k + 1) = 247 + k by omega, Nat.add_sub_cancel]
  rfl

/-- k bytes as a string, by name -/
theorem name_be (k n : Nat) : ∃ p : ByteArray, str (Vn.be k n) = .string p ∧ p.size = k ∧ p.data.toList = Vn.be k n :=
  ⟨⟨(Vn.be k n).toArray⟩, rfl, by show (Vn.be k n).toArray.size = k; simp [Vn.be_length], rfl⟩
theorem str_two (p q : ByteArray) (l : List UInt8) (h : p.data.toList ++ q.data.toList = l) : Ending.returned (.string (p ++ q)) = .returned (str l) := by
  subst h
  have e : p ++ q = ⟨(p.data.toList ++ q.data.toList).toArray⟩ := by
    apply ByteArray.ext
    simp
  rw [e]
  rfl

set_option maxHeartbeats 1000000 in
theorem refput_any (n : Int) (w : World) (h0 : 0 ≤ n) (h1 : n ≤ 18446744073709551615) :
    Calls Tryd.prog 68 #[.int .u64 n] w fun e w' => e = .returned (str (Vn.vput n.toNat)) ∧ Kept w w' := by
  obtain ⟨N, rfl⟩ := Int.eq_ofNat_of_zero_le h0
  rw [Int.toNat_natCast]
  by_cases c1 : N ≤ 240
  · have Hv : Hid (Vn.vput N = Vn.be 1 N) := by show _ = _; rw [Vn.vput, if_pos c1, be_one]
    go_enter Tryd.func68, Tryd.ntmps68
    go_wp2_with fail
    refine (big_any 1 _ _ (by omega) (by omega) (by omega)).mono ?_
    rintro e w1 ⟨rfl, e1⟩
    rw [Int.toNat_natCast, ← Hv.out]
    go_wp2
    go_ret
    exact ⟨rfl, e1⟩
  by_cases c2 : N ≤ 2287
  · go_enter Tryd.func68, Tryd.ntmps68
    go_wp2_with fail
    refine (big_any 1 _ _ (by omega) (by omega) (by omega)).mono ?_
    rintro e w1 ⟨rfl, e1⟩
    obtain ⟨p, hp, sp, lp⟩ := name_be 1 (241 + ((N : Int) - 240) / 256).toNat
    rw [hp]
    have hps : p.size ≤ 9 := by omega
    have Lp := Lib.hid lp
    clear hp sp lp
    go_wp2_with fail
    refine (big_any 1 _ _ (by omega) (by omega) (by omega)).mono ?_
    rintro e w2 ⟨rfl, e2⟩
    obtain ⟨q, hq, sq, lq⟩ := name_be 1 (((N : Int) - 240) % 256).toNat
    rw [hq]
    have hqs : q.size ≤ 9 := by omega
    have Lq := Lib.hid lq
    clear hq sq lq
    go_wp2
    go_ret
    refine ⟨str_two _ _ _ ?_, e1.trans e2⟩
    rw [Lp.out, Lq.out, Vn.vput, if_neg c1, if_pos c2, be_one, be_one]
    show [_, _] = [_, _]
    rw [Vn.ofNat_eq (241 + ((N : Int) - 240) / 256).toNat (UInt8.ofNat (241 + (N - 240) / 256)) (by rw [UInt8.toNat_ofNat']; omega), Vn.ofNat_eq (((N : Int) - 240) % 256).toNat (UInt8.ofNat (N - 240)) (by rw [UInt8.toNat_ofNat']; omega)]
  by_cases c3 : N ≤ 67823
  · go_enter Tryd.func68, Tryd.ntmps68
    go_wp2_with fail
    refine (big_any 1 _ _ (by omega) (by omega) (by omega)).mono ?_
    rintro e w1 ⟨rfl, e1⟩
    obtain ⟨p, hp, sp, lp⟩ := name_be 1 (249 : Int).toNat
    rw [hp]
    have hps : p.size ≤ 9 := by omega
    have Lp := Lib.hid lp
    clear hp sp lp
    go_wp2_with fail
    refine (big_any 2 _ _ (by omega) (by omega) (by omega)).mono ?_
    rintro e w2 ⟨rfl, e2⟩
    obtain ⟨q, hq, sq, lq⟩ := name_be 2 ((N : Int) - 2288).toNat
    rw [hq]
    have hqs : q.size ≤ 9 := by omega
    have Lq := Lib.hid lq
    clear hq sq lq
    go_wp2
    go_ret
    refine ⟨str_two _ _ _ ?_, e1.trans e2⟩
    rw [Lp.out, Lq.out, Vn.vput, if_neg c1, if_neg c2, if_pos c3, be_one, show ((N : Int) - 2288).toNat = N - 2288 by omega]
    rfl
  · have d1 : decide ((N : Int) ≤ 240) = false := by simp only [decide_eq_false_iff_not]; omega
    have d2 : decide ((N : Int) ≤ 2287) = false := by simp only [decide_eq_false_iff_not]; omega
    have d3 : decide ((N : Int) ≤ 67823) = false := by simp only [decide_eq_false_iff_not]; omega
    go_enter Tryd.func68, Tryd.ntmps68
    go_wp2
    go_loop [3, 4] (fun k m => ∃ j : Nat, TakenR N j ∧ k = .int .i64 (j : Int) ∧ m = .int .u64 (N / 256 ^ j : Nat)) (fun _ m => (intOf m).toNat)
    case atStart => exact ⟨3, ⟨by omega, by omega, .inl rfl⟩, rfl, by
                      have : N / 256 ^ 3 = N / 256 / 256 / 256 := by rw [Nat.div_div_eq_div_mul, Nat.div_div_eq_div_mul]
                      rw [this]; congr 1⟩
    case round =>
      obtain ⟨j, hj, rfl, rfl⟩ := hrel
      have hj3 := hj.1
      have hj8 := hj.2.1
      obtain ⟨q, hq⟩ : ∃ q, q = N / 256 ^ j := ⟨_, rfl⟩
      rw [← hq]
      have Hq := Lib.hid hq
      clear hq
      have hqn : q ≤ N := by rw [Hq.out]; exact Nat.div_le_self _ _
      by_cases hp : 0 < q
      · have hn := takenR_next N j (by omega) hj3 (by rw [← Hq.out]; exact hp)
        rw [← Hq.out] at hn
        have Hn := Lib.hid hn
        clear hn
        go_wp2
        go_round
        case rel => exact ⟨j + 1, Hn.out.1, by go_num, by rw [← Hn.out.2]; go_num⟩
        case measure => simp [intOf]; omega
      · have hz : q = 0 := by omega
        subst hz
        have He := takenR_end N j hj Hq.out.symm (by omega)
        have Hv := Lib.hid (vput_long N j He (by omega))
        clear He
        go_wp2_with fail
        refine (big_any 1 _ _ (by omega) (by omega) (by omega)).mono ?_
        rintro e w1 ⟨rfl, e1⟩
        obtain ⟨p, hp, sp, lp⟩ := name_be 1 (247 + (j : Int)).toNat
        rw [hp]
        have hps : p.size ≤ 9 := by omega
        have Lp := Lib.hid lp
        clear hp sp lp
        go_wp2_with fail
        refine (big_any j _ _ (by omega) (by omega) (by omega)).mono ?_
        rintro e w2 ⟨rfl, e2⟩
        obtain ⟨q, hq, sq, lq⟩ := name_be j (N : Int).toNat
        rw [hq]
        have hqs : q.size ≤ 9 := by omega
        have Lq := Lib.hid lq
        clear hq sq lq
        go_wp2
        go_ret
        refine ⟨str_two _ _ _ ?_, e1.trans e2⟩
        rw [Lp.out, Lq.out, Hv.out, show (247 + (j : Int)).toNat = 247 + j by omega, Int.toNat_natCast]

set_option maxHeartbeats 1000000 in
theorem reftext_any (s : ByteArray) (w : World) (hs : s.size ≤ 140737488355328) :
    Calls Tryd.prog 83 #[.string s] w fun e w' => e = .returned (str (Vn.vput s.size ++ s.data.toList)) ∧ Kept w w' := by
  have Hl := Lib.hid (Vn.vput_length s.size)
  have hz := Vn.vsz_pos s.size
  go_enter Tryd.func83, Tryd.ntmps83
  go_wp2_with fail
  refine (refput_any _ _ (by omega) (by omega)).mono ?_
  rintro e w' ⟨rfl, hk⟩
  rw [Int.toNat_natCast]
  obtain ⟨p, hp⟩ : ∃ p : ByteArray, p = ⟨(Vn.vput s.size).toArray⟩ := ⟨_, rfl⟩
  have hp2 : p.size ≤ 9 := by rw [hp]; show (Vn.vput s.size).toArray.size ≤ 9; rw [List.size_toArray, Hl.out]; exact hz.2
  rw [show str (Vn.vput s.size) = .string p from by rw [hp]; rfl]
  have Hp := Lib.hid hp
  clear hp
  go_wp2
  go_ret
  exact ⟨by rw [Hp.out, str_append]; rfl, hk⟩

theorem at_len (a : ByteArray) (k : Nat) (h : k < a.size) : a.data.toList.drop k = a[k] :: a.data.toList.drop (k + 1) := by
  rw [List.drop_eq_getElem_cons (by simpa using h)]
  rfl
/-- being ahead, where both are alike so far -/
theorem bl_at (a b : ByteArray) (k : Nat) (ha : k < a.size) (hb : k < b.size) (hd : a[k] ≠ b[k]) : Op.bytesLess (a.data.toList.drop k) (b.data.toList.drop k) = decide (a[k].toNat < b[k].toNat) := by
  rw [at_len a k ha, at_len b k hb]
  by_cases h : a[k].toNat < b[k].toNat
  · rw [(bl_cons ..).2 (.inl h)]; simp [h]
  · have : Op.bytesLess (a[k] :: a.data.toList.drop (k + 1)) (b[k] :: b.data.toList.drop (k + 1)) = false := by
      rw [← Bool.not_eq_true, bl_cons]
      rintro (h' | ⟨h', _⟩)
      · exact h h'
      · exact hd h'
    rw [this]; simp [h]
theorem bl_next (a b : ByteArray) (k : Nat) (ha : k < a.size) (hb : k < b.size) (hd : a[k] = b[k]) : Op.bytesLess (a.data.toList.drop k) (b.data.toList.drop k) = Op.bytesLess (a.data.toList.drop (k + 1)) (b.data.toList.drop (k + 1)) := by
  rw [at_len a k ha, at_len b k hb, hd, Op.bytesLess]
  simp
theorem bl_ends (a b : ByteArray) (k : Nat) (hk : k ≤ a.size) (hk2 : k ≤ b.size) (h : ¬ (k < a.size ∧ k < b.size)) : Op.bytesLess (a.data.toList.drop k) (b.data.toList.drop k) = decide (a.size < b.size) := by
  by_cases ha : k < a.size
  · have hb : b.data.toList.drop k = [] := List.drop_of_length_le (by rw [size_len]; omega)
    rw [hb]
    have e : Op.bytesLess (a.data.toList.drop k) [] = false := by cases a.data.toList.drop k <;> rfl
    rw [e]; simp; omega
  · have h1 : a.data.toList.drop k = [] := List.drop_of_length_le (by rw [size_len]; omega)
    rw [h1]
    by_cases hb : k < b.size
    · rw [at_len b k hb]; simp [Op.bytesLess]; omega
    · have h2 : b.data.toList.drop k = [] := List.drop_of_length_le (by rw [size_len]; omega)
      rw [h2]; simp [Op.bytesLess]; omega

end Go.Proofs.YtenhncohhikllaaDoor
