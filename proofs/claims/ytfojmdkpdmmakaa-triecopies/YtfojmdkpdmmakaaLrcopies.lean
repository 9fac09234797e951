/-
  The walk of the law TrieCopies.
-/
import Derived.Test.YtfojmdkpdmmakaaRlaw2
namespace Go.Proofs.Ytfojmdkpdmmakaa
open Go.ChangeShapes Go.WideShapes Go.ChangeAt Go.RowKit Go.Maps

set_option maxHeartbeats 4000000 in
set_option maxRecDepth 100000 in
theorem rcopies_walk (av : Option Addr) (len cap : Nat) (z : Nat → OpV) (s : ByteArray) (w : World) (hz : OpArg w av len cap z) (hs : s.size ≤ maxLen) :
    Calls Try.prog 5 #[.slice av len cap, .string s] w fun e w' => e = .returned (.bool true) ∧ Kept w w' := by
  unfold maxLen at hs
  have cc := cut_law av len cap z w hz
  clear hz
  go_enter Try.func5, Try.ntmps5
  go_wp2_with fail
  refine cc.mono ?_
  rintro e w1 ⟨a1, c1, os, rfl, o1, hos, hsm, k1⟩
  have O1 := Lib.hid o1
  have HS := Lib.hid hsm
  clear cc o1 hsm
  go_wp2_with fail
  refine (new_from k1).mono ?_
  rintro e w2 ⟨t, N2, rfl, T2, k2, kk2, _⟩
  have h2 : Hid (Tr w w2 0 t N2 (fun _ _ => 0)) := T2
  have O2 := Lib.hid (O1.out.kept kk2)
  clear T2 kk2 O1 k1
  have ss := cut_size s 150
  simp only [Int.cast_ofNat_Int] at ss
  obtain ⟨S, hS⟩ : ∃ S, s.extract 0 (min (s.size : Int) 150).toNat = S := ⟨_, rfl⟩
  rw [hS] at ss
  have HSS := Lib.hid hS
  clear hS
  go_wp2
  rw [HSS.out]
  go_loopw [7] (fun iv wr => ∃ (k n : Nat) (N : Path → Option Loc) (A : Path → Int → Nat), k ≤ os.length ∧ iv = .int .i64 k ∧ Tr w wr n t N A ∧ n ≤ 9 * k ∧ OwnO wr w.heap.size (.slice a1 os.length c1) os ∧ Kept w wr) (fun iv _ => os.length - (intOf iv).toNat)
  case atStart => exact ⟨0, 0, N2, _, Nat.zero_le _, rfl, h2.out, Nat.le_refl _, O2.out, k2⟩
  case round =>
    obtain ⟨k, n, N, A, hk, rfl, T3, hn3, o3, k3⟩ := hrel
    have HT3 := Lib.hid T3
    have HO3 := Lib.hid o3
    clear T3 o3 h2 O2 k2
    by_cases hlt : k < os.length
    · obtain ⟨g, rfl, hcm, hcl, d0, d1, d2, d3⟩ := HO3.out.at hlt
      have hso := HS.out os[k] (List.getElem_mem hlt)
      unfold maxLen at hcm
      obtain ⟨o, ho⟩ : ∃ o, os[k] = o := ⟨_, rfl⟩
      rw [ho] at d0 d1 d2 d3 hso
      have HSO := Lib.hid hso
      clear ho hso
      go_wp2_with fail
      refine (play_from k3 HT3.out (by omega) o (by have := HSO.out.1; omega) HSO.out.2.2.1).mono ?_
      rintro e w4 ⟨x4, y4, rfl, _, N4, T4, k4, M4⟩
      have HT4 := Lib.hid T4
      have HO4 := Lib.hid (HO3.out.moves HT3.out.tri.trie M4)
      clear T4 M4
      go_wp2
      go_roundw
      case rel => exact ⟨k + 1, n + 9, N4, _, by omega, by go_num, HT4.out, by omega, HO4.out, k4⟩
      case measure => simp [intOf]; omega
    · have hke : k = os.length := by omega
      subst hke
      go_wp2_with fail
      refine (copy_from k3 HT3.out (by omega)).mono ?_
      rintro e w4 ⟨t', M4, rfl, C4, k4, kk4, ap4⟩
      have HC4 := Lib.hid C4
      have HT4 := Lib.hid (HT3.out.kept kk4)
      have HO4 := Lib.hid (HO3.out.kept kk4)
      have HP4 := Lib.hid ap4
      clear C4 kk4 ap4 HT3 HO3 k3
      go_wp2_with fail
      refine (match_law k4 HT4.out (by omega) S (by omega)).mono ?_
      rintro e w5 ⟨a5, c5, ms, rfl, o5, hw5, k5, kk5⟩
      have HW5 := Lib.hid hw5
      have HC5 := Lib.hid (HC4.out.kept kk5)
      have HT5 := Lib.hid (HT4.out.kept kk5)
      have HO5 := Lib.hid (HO4.out.kept kk5)
      have HI5 := Lib.hid o5
      clear hw5 o5 kk5 HC4 HT4 HO4 k4
      go_wp2_with fail
      refine (all_law k5 HT5.out (by omega)).mono ?_
      rintro e w6 ⟨a6, c6, fs, rfl, o6, hf6, k6, kk6⟩
      have HF6 := Lib.hid hf6
      have HC6 := Lib.hid (HC5.out.kept kk6)
      have HT6 := Lib.hid (HT5.out.kept kk6)
      have HO6 := Lib.hid (HO5.out.kept kk6)
      have HI6 := Lib.hid (HI5.out.kept kk6)
      have HS6 := Lib.hid o6
      clear hf6 o6 kk6 HC5 HT5 HO5 HI5 k5
      go_wp2_with fail
      refine (match_law k6 HC6.out (by omega) S (by omega)).mono ?_
      rintro e w7 ⟨a7, c7, ms7, rfl, o7, hw7, k7, kk7⟩
      have E7 := Lib.hid (hw7.uniq HW5.out)
      have HC7 := Lib.hid (HC6.out.kept kk7)
      have HT7 := Lib.hid (HT6.out.kept kk7)
      have HO7 := Lib.hid (HO6.out.kept kk7)
      have HI7 := Lib.hid (HI6.out.kept kk7)
      have HS7 := Lib.hid (HS6.out.kept kk7)
      have N7 := Lib.hid o7.nums
      clear hw7 o7 kk7 HC6 HT6 HO6 HI6 HS6 k6
      go_wp2_with fail
      refine (ints_law k7 N7.out HI7.out.nums E7.out).mono ?_
      rintro e w8 ⟨rfl, k8, kk8⟩
      have HC8 := Lib.hid (HC7.out.kept kk8)
      have HT8 := Lib.hid (HT7.out.kept kk8)
      have HO8 := Lib.hid (HO7.out.kept kk8)
      have HI8 := Lib.hid (HI7.out.kept kk8)
      have HS8 := Lib.hid (HS7.out.kept kk8)
      clear kk8 HC7 HT7 HO7 HI7 HS7 k7 N7
      go_wp2_with fail
      refine (all_law k8 HC8.out (by omega)).mono ?_
      rintro e w9 ⟨a9, c9, fs9, rfl, o9, hf9, k9, kk9⟩
      have E9 := Lib.hid (hf9.uniq HF6.out)
      have HC9 := Lib.hid (HC8.out.kept kk9)
      have HT9 := Lib.hid (HT8.out.kept kk9)
      have HO9 := Lib.hid (HO8.out.kept kk9)
      have HI9 := Lib.hid (HI8.out.kept kk9)
      have HS9 := Lib.hid (HS8.out.kept kk9)
      have Q9 := Lib.hid o9
      clear hf9 o9 kk9 HC8 HT8 HO8 HI8 HS8 k8
      go_wp2_with fail
      refine (same_law k9 (OwnS.strs Q9.out) (OwnS.strs HS9.out) E9.out).mono ?_
      rintro e w10 ⟨rfl, k10, kk10⟩
      have HC10 := Lib.hid (HC9.out.kept kk10)
      have HT10 := Lib.hid (HT9.out.kept kk10)
      have HO10 := Lib.hid (HO9.out.kept kk10)
      have HI10 := Lib.hid (HI9.out.kept kk10)
      have HS10 := Lib.hid (HS9.out.kept kk10)
      clear kk10 HC9 HT9 HO9 HI9 HS9 k9 Q9
      go_wp2_with fail
      refine (add_from k10 HC10.out (by omega) ⟨#[35]⟩ (by decide) 5 (by decide)).mono ?_
      rintro e w11 ⟨rfl, M11, C11, k11, V11⟩
      have HC11 := Lib.hid C11
      have HT11 : Hid (Tr w w11 n t N A) := ⟨HT10.out.tri.other HC10.out.tri HP4.out.symm V11, HT10.out.own⟩
      have HO11 := Lib.hid (HO10.out.moves HC10.out.tri.trie V11)
      have HI11 := Lib.hid (HI10.out.moves HC10.out.tri.trie V11)
      have HS11 := Lib.hid (HS10.out.moves HC10.out.tri.trie V11)
      have HP11 := Lib.hid (HP4.out.symm.moves V11 HT10.out.tri.trie)
      clear C11 V11 HC10 HT10 HO10 HI10 HS10 k10
      go_wp2_with fail
      refine (add_from k11 HC11.out (by omega) ⟨#[122, 122, 47, 43]⟩ (by decide) 7 (by decide)).mono ?_
      rintro e w12 ⟨rfl, M12, C12, k12, V12⟩
      have HC12 := Lib.hid C12
      have HT12 : Hid (Tr w w12 n t N A) := ⟨HT11.out.tri.other HC11.out.tri HP11.out V12, HT11.out.own⟩
      have HO12 := Lib.hid (HO11.out.moves HC11.out.tri.trie V12)
      have HI12 := Lib.hid (HI11.out.moves HC11.out.tri.trie V12)
      have HS12 := Lib.hid (HS11.out.moves HC11.out.tri.trie V12)
      have HP12 := Lib.hid (HP11.out.moves V12 HT11.out.tri.trie)
      clear C12 V12 HC11 HT11 HO11 HI11 HS11 k11 HP11
      go_wp2
      go_loopw [12] (fun iv wr => ∃ (k nc : Nat) (M : Path → Option Loc) (B : Path → Int → Nat), k ≤ os.length ∧ iv = .int .i64 k ∧ Tr w wr nc t' M B ∧ nc ≤ 600 ∧ Tr w wr n t N A ∧ Apart M N ∧ OwnO wr w.heap.size (.slice a1 os.length c1) os ∧ OwnI wr w4.heap.size (.slice a5 ms.length c5) ms ∧ OwnS wr w5.heap.size (.slice a6 fs.length c6) fs ∧ Kept w wr) (fun iv _ => os.length - (intOf iv).toNat)
      case atStart => exact ⟨0, _, M12, _, Nat.zero_le _, rfl, HC12.out, by omega, HT12.out, HP12.out, HO12.out, HI12.out, HS12.out, k12⟩
      case round =>
        obtain ⟨k, nc, M, B, hk, rfl, C13, hn13, T13, P13, o13, i13, s13, k13⟩ := hrel
        have HC13 := Lib.hid C13
        have HT13 := Lib.hid T13
        have HP13 := Lib.hid P13
        have HO13 := Lib.hid o13
        have HI13 := Lib.hid i13
        have HS13 := Lib.hid s13
        clear C13 T13 P13 o13 i13 s13
        by_cases hlt : k < os.length
        · obtain ⟨g, rfl, hcm, hcl, d0, d1, d2, d3⟩ := HO13.out.at hlt
          have hso := HS.out os[k] (List.getElem_mem hlt)
          unfold maxLen at hcm
          obtain ⟨o, ho⟩ : ∃ o, os[k] = o := ⟨_, rfl⟩
          rw [ho] at d0 d1 d2 d3 hso
          have HSO := Lib.hid hso
          clear ho hso
          go_wp2_with fail
          refine (leave_from k13 HC13.out (by omega) o.id HSO.out.2.2.1).mono ?_
          rintro e w14 ⟨L, rfl, _, _, M14, C14, k14, V14⟩
          have HC14 := Lib.hid C14
          have HT14 : Hid (Tr w w14 n t N A) := ⟨HT13.out.tri.other HC13.out.tri HP13.out V14, HT13.out.own⟩
          have HO14 := Lib.hid (HO13.out.moves HC13.out.tri.trie V14)
          have HI14 := Lib.hid (HI13.out.moves HC13.out.tri.trie V14)
          have HS14 := Lib.hid (HS13.out.moves HC13.out.tri.trie V14)
          have HP14 := Lib.hid (HP13.out.moves V14 HT13.out.tri.trie)
          clear C14 V14
          go_wp2
          go_roundw
          case rel => exact ⟨k + 1, nc, M14, _, by omega, by go_num, HC14.out, hn13, HT14.out, HP14.out, HO14.out, HI14.out, HS14.out, k14⟩
          case measure => simp [intOf]; omega
        · go_wp2_with fail
          refine (match_law k13 HT13.out (by omega) S (by omega)).mono ?_
          rintro e w15 ⟨a15, c15, ms15, rfl, o15, hw15, k15, kk15⟩
          have E15 := Lib.hid (hw15.uniq HW5.out)
          have HT15 := Lib.hid (HT13.out.kept kk15)
          have HI15 := Lib.hid (HI13.out.kept kk15)
          have HS15 := Lib.hid (HS13.out.kept kk15)
          have N15 := Lib.hid o15.nums
          clear hw15 o15 kk15
          go_wp2_with fail
          refine (ints_law k15 N15.out HI15.out.nums E15.out).mono ?_
          rintro e w16 ⟨rfl, k16, kk16⟩
          have HT16 := Lib.hid (HT15.out.kept kk16)
          have HS16 := Lib.hid (HS15.out.kept kk16)
          clear kk16
          go_wp2_with fail
          refine (all_law k16 HT16.out (by omega)).mono ?_
          rintro e w17 ⟨a17, c17, fs17, rfl, o17, hf17, k17, kk17⟩
          have E17 := Lib.hid (hf17.uniq HF6.out)
          have HS17 := Lib.hid (HS16.out.kept kk17)
          have Q17 := Lib.hid o17
          clear hf17 o17 kk17
          go_wp2_with fail
          refine (same_law k17 (OwnS.strs Q17.out) (OwnS.strs HS17.out) E17.out).mono ?_
          rintro e w18 ⟨rfl, k18, kk18⟩
          go_wp2_with fail
          refine (fixed_law k18).mono ?_
          rintro e w19 ⟨rfl, k19⟩
          go_wp2
          go_ret
          exact ⟨rfl, k19⟩
end Go.Proofs.Ytfojmdkpdmmakaa
