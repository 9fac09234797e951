/-
  The walk of the law TrieCounts.
-/
import Derived.Test.YtfojmdkpdmmakaaRfixed
import Derived.Test.YtfojmdkpdmmakaaTref2
import Derived.Test.YtfojmdkpdmmakaaVbits
import Derived.Deep.DeepCutAuto
namespace Go.Proofs.Ytfojmdkpdmmakaa
open Go.ChangeShapes Go.WideShapes Go.ChangeAt Go.RowKit Go.Maps

/-- one asks for one filter so often -/
abbrev rep (j : Nat) (p : Path) (i : Int) : List (Path × Int) := List.replicate j (p, i)
theorem rep_cnt (j : Nat) (p : Path) (i : Int) : cnt (rep j p i) p i = j := List.count_replicate_self
theorem rep_add {j : Nat} {f : List UInt8} {i : Int} (h : okF f i = true) : addA (cnt (rep j (Tp.lev f) i)) f i = cnt (rep (j + 1) (Tp.lev f) i) := add_cnt h
theorem rep_drop {j : Nat} {f : List UInt8} {i : Int} (h : okF f i = true) : dropA (cnt (rep (j + 1) (Tp.lev f) i)) f i = cnt (rep j (Tp.lev f) i) := by
  rw [drop_cnt h, rep, List.replicate_succ, List.erase_cons_head]
theorem rep_addV {j : Nat} {f : List UInt8} {i : Int} (h : okF f i = true) : addV (cnt (rep j (Tp.lev f) i)) f i = .tuple #[.int .i64 (j + 1 : Nat), .int .i64 0] := by
  unfold addV; rw [if_pos h, rep_cnt]
theorem rep_dropV {j : Nat} {f : List UInt8} {i : Int} (h : okF f i = true) : dropV (cnt (rep (j + 1) (Tp.lev f) i)) f i = .tuple #[.int .i64 (j : Nat), .int .i64 0] := by
  unfold dropV; rw [if_pos h, rep_cnt, if_neg (by omega)]; rfl
theorem rep_mem {j : Nat} {f g : List UInt8} {i k : Int} : 0 < cnt (rep j (Tp.lev f) i) (Tp.lev g) k ↔ 0 < j ∧ g = f ∧ k = i := by
  rw [cnt_pos, List.mem_replicate]
  constructor
  · rintro ⟨h1, h2⟩
    have a1 := congrArg Prod.fst h2
    have a2 := congrArg Prod.snd h2
    exact ⟨by omega, Tp.lev_inj a1, a2⟩
  · rintro ⟨h1, rfl, rfl⟩
    exact ⟨by omega, rfl⟩
theorem rep_all (j : Nat) (f : List UInt8) (i : Int) : ∀ g, g ∈ (if 0 < j then [f] else []) ↔ ∃ k, 0 < cnt (rep j (Tp.lev f) i) (Tp.lev g) k := by
  intro g
  constructor
  · intro h
    by_cases hj : 0 < j
    · rw [if_pos hj, List.mem_singleton] at h
      exact ⟨i, rep_mem.2 ⟨hj, h, rfl⟩⟩
    · rw [if_neg hj] at h; cases h
  · rintro ⟨k, hk⟩
    obtain ⟨h1, h2, _⟩ := rep_mem.1 hk
    rw [if_pos h1, h2]; simp
theorem rep_ordered (j : Nat) (f : List UInt8) : Ordered (if 0 < j then [f] else []) := by
  unfold Ordered
  split <;> simp
theorem fixed_from {w0 w : World} (k : Kept w0 w) : Calls Try.prog 17 #[] w fun e w' => e = .returned (.bool true) ∧ Kept w0 w' := (fixed4_any w).mono fun _ _ h => ⟨h.1, k.trans h.2⟩

set_option maxHeartbeats 4000000 in
set_option maxRecDepth 100000 in
theorem rcounts_walk (f : ByteArray) (id n : Int) (w : World) (hf : f.size ≤ maxLen) (hi1 : -9223372036854775808 ≤ id) (hi2 : id ≤ 9223372036854775807) (_hn1 : -9223372036854775808 ≤ n) (_hn2 : n ≤ 9223372036854775807) :
    Calls Try.prog 6 #[.string f, .int .i64 id, .int .i64 n] w fun e w' => e = .returned (.bool true) ∧ Kept w w' := by
  unfold maxLen at hf
  have hi : (Lit.int .i64 id).wf = true := WalkArith.wf_i64 ⟨hi1, hi2⟩
  go_enter Try.func6, Try.ntmps6
  go_upto_region 2 with fail
  have sa := cut_size f 150
  simp only [Int.cast_ofNat_Int] at sa
  generalize f.extract 0 (min (f.size : Int) 150).toNat = F at sa ⊢
  clear hf
  have K := Kept.refl w
  go_wp2_with fail
  refine (new_from K).mono ?_
  rintro e w1 ⟨t, N1, rfl, T1, k1, _, _⟩
  have h1 : Hid (Tr w w1 0 t N1 (cnt (rep 0 (Tp.lev F.data.toList) id))) := T1
  clear T1 K
  go_wp2_with fail
  refine (rfilter_any F _ (by omega)).mono ?_
  rintro e w2 ⟨rfl, kk2⟩
  have h2 := Lib.hid (h1.out.kept kk2)
  have k2 := k1.trans kk2
  clear h1 kk2 k1
  by_cases hok : okF F.data.toList id = true
  · have HOK := Lib.hid hok
    obtain ⟨hflt, hid0⟩ := ok_fine hok
    rw [hflt]
    clear hok hflt
    obtain ⟨b1, b2⟩ := and_mask n 15 (by omega)
    simp only [Int.cast_ofNat_Int] at b1 b2
    have hneg : ¬ id < 0 := by omega
    obtain ⟨M, hM⟩ : ∃ M : Nat, bits BinOp.and IntKind.i64 n 15 = (M : Int) := ⟨(bits BinOp.and IntKind.i64 n 15).toNat, by omega⟩
    rw [hM] at b1 b2
    have hM15 : M ≤ 15 := by omega
    clear b1 b2
    go_wp2
    go_loopw [9] (fun iv wr => ∃ (j nn : Nat) (N : Path → Option Loc), j ≤ M + 1 ∧ iv = .int .i64 (j + 1 : Nat) ∧ Tr w wr nn t N (cnt (rep j (Tp.lev F.data.toList) id)) ∧ nn ≤ 9 * j ∧ Kept w wr) (fun iv _ => (17 - intOf iv).toNat)
    case atStart => exact ⟨0, 0, N1, Nat.zero_le _, rfl, h2.out, Nat.le_refl _, k2⟩
    case round =>
      obtain ⟨j, nn, N, hj, rfl, T, hnn, kr⟩ := hrel
      have HT := Lib.hid T
      clear T
      by_cases hlt : j < M + 1
      · go_wp2_with fail
        have ca := add_from kr HT.out (by omega) F (by omega) id hi
        rw [rep_addV HOK.out, rep_add HOK.out] at ca
        refine ca.mono ?_
        rintro e w3 ⟨rfl, N3, T3, k3, _⟩
        have HT3 := Lib.hid T3
        clear T3 ca
        go_wp2_with fail
        refine (has_from k3 HT3.out F (by omega) id hi (j + 1) (rep_cnt _ _ _)).mono ?_
        rintro e w4 ⟨rfl, k4, kk4⟩
        have HT4 := Lib.hid (HT3.out.kept kk4)
        clear kk4
        go_wp2
        go_roundw
        case rel => exact ⟨j + 1, nn + 9, N3, by omega, by go_num, HT4.out, by omega, k4⟩
        case measure => simp [intOf]; omega
      · have hjM : j = M + 1 := by omega
        subst hjM
        clear hlt hj
        go_wp2
        go_loopw [12] (fun iv wr => ∃ (j nn : Nat) (N : Path → Option Loc), j ≤ M + 1 ∧ iv = .int .i64 ((j : Int) - 1) ∧ Tr w wr nn t N (cnt (rep j (Tp.lev F.data.toList) id)) ∧ nn + 9 * j ≤ 400 ∧ Kept w wr) (fun iv _ => (intOf iv + 1).toNat)
        case atStart => exact ⟨M + 1, nn, N, Nat.le_refl _, by go_num, HT.out, by omega, kr⟩
        case round =>
          obtain ⟨j, n5, N5, hj5, rfl, T5, hn5, k5⟩ := hrel
          have HT5 := Lib.hid T5
          clear T5
          cases j with
          | zero =>
            go_wp2_with fail
            refine (of_from k5 HT5.out (by omega) id hi [] (by simp [Ordered]) (fun g => by rw [rep_mem]; simp)).mono ?_
            rintro e w6 ⟨a6, cap6, rfl, o6, k6, kk6⟩
            clear o6 kk6
            go_wp2_with fail
            refine (fixed_from k6).mono ?_
            rintro e w7 ⟨rfl, k7⟩
            go_wp2
            go_ret
            exact ⟨rfl, k7⟩
          | succ j =>
            go_wp2_with fail
            have cd := drop_from k5 HT5.out (by omega) F (by omega) id hi
            rw [rep_dropV HOK.out, rep_drop HOK.out] at cd
            refine cd.mono ?_
            rintro e w6 ⟨rfl, N6, T6, k6, _⟩
            have HT6 := Lib.hid T6
            clear T6 cd
            go_wp2_with fail
            refine (has_from k6 HT6.out F (by omega) id hi j (rep_cnt _ _ _)).mono ?_
            rintro e w7 ⟨rfl, k7, kk7⟩
            have HT7 := Lib.hid (HT6.out.kept kk7)
            clear kk7
            go_wp2_with fail
            refine (all_from k7 HT7.out (by omega) _ (rep_ordered j F.data.toList) (rep_all j F.data.toList id)).mono ?_
            rintro e w8 ⟨a8, cap8, rfl, o8, k8, kk8⟩
            have HT8 := Lib.hid (HT7.out.kept kk8)
            clear o8 kk8
            by_cases hj0 : 0 < j
            · rw [if_pos hj0]
              have e0 : decide ((0 : Int) < (j : Int)) = true := by simp; omega
              go_wp2
              go_roundw
              case rel =>
                repeat apply Exists.intro
                refine ⟨?_, rfl⟩
                exact ⟨j, n5 + 9, N6, by omega, by go_num, HT8.out, by omega, k8⟩
              case measure => simp [intOf]
            · have hj00 : j = 0 := by omega
              subst hj00
              rw [if_neg hj0]
              go_wp2
              go_roundw
              case rel =>
                repeat apply Exists.intro
                refine ⟨?_, rfl⟩
                exact ⟨0, n5 + 9, N6, by omega, by go_num, HT8.out, by omega, k8⟩
              case measure => simp [intOf]
  · have hok' : Tp.filter F.data.toList = true → id < 0 := by
      intro h
      by_cases h2 : 0 ≤ id
      · exact absurd (by unfold okF; rw [h]; simpa using h2) hok
      · omega
    have hz : cnt (rep 0 (Tp.lev F.data.toList) id) (Tp.lev F.data.toList) id = 0 := rep_cnt 0 _ _
    cases hflt : Tp.filter F.data.toList
    · go_wp2_with fail
      refine (has_from k2 h2.out F (by omega) id hi 0 hz).mono ?_
      rintro e w3 ⟨rfl, k3, _⟩
      go_wp2_with fail
      refine (fixed_from k3).mono ?_
      rintro e w4 ⟨rfl, k4⟩
      go_wp2
      go_ret
      exact ⟨rfl, k4⟩
    · have hneg := hok' hflt
      clear hok'
      go_wp2_with fail
      refine (has_from k2 h2.out F (by omega) id hi 0 hz).mono ?_
      rintro e w3 ⟨rfl, k3, _⟩
      go_wp2_with fail
      refine (fixed_from k3).mono ?_
      rintro e w4 ⟨rfl, k4⟩
      go_wp2
      go_ret
      exact ⟨rfl, k4⟩
end Go.Proofs.Ytfojmdkpdmmakaa
