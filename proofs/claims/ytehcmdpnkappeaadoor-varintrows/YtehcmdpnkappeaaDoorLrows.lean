/-
  The walk of the law VarintRows.
-/
import Derived.Test.YtehcmdpnkappeaaDoorVfixed
import Derived.Test.YtehcmdpnkappeaaDoorVback
import Derived.Test.YtehcmdpnkappeaaDoorLorder
import Derived.Test.YtehcmdpnkappeaaDoorVslice
namespace Go.Proofs.YtehcmdpnkappeaaDoor
open Go.ChangeShapes Go.WideShapes Go.ChangeAt Go.RowKit

/-- numbers and a text, one behind the other -/
def rowsTo (z : Nat → Nat) (S : List UInt8) : Nat → List UInt8
  | 0 => []
  | k + 1 => rowsTo z S k ++ (Vn.vput (z k) ++ (Vn.vput S.length ++ S))
theorem rowsTo_len (z : Nat → Nat) (S : List UInt8) (hS : S.length ≤ 100) : ∀ k, (rowsTo z S k).length ≤ 118 * k
  | 0 => by simp [rowsTo]
  | k + 1 => by
    have := rowsTo_len z S hS k
    have h1 := Vn.vput_length (z k)
    have h2 := Vn.vput_length S.length
    have h3 := Vn.vsz_pos (z k)
    have h4 := Vn.vsz_pos S.length
    simp only [rowsTo, List.length_append]
    omega
theorem rowsTo_split (z : Nat → Nat) (S : List UInt8) (k : Nat) : ∀ d, ∃ r, rowsTo z S (k + 1 + d) = rowsTo z S k ++ (Vn.vput (z k) ++ (Vn.vput S.length ++ S ++ r))
  | 0 => ⟨[], by simp [rowsTo]⟩
  | d + 1 => by
    obtain ⟨r, hr⟩ := rowsTo_split z S k d
    refine ⟨r ++ (Vn.vput (z (k + 1 + d)) ++ (Vn.vput S.length ++ S)), ?_⟩
    rw [← Nat.add_assoc, rowsTo, hr]
    simp [List.append_assoc]
/-- what is got in one round -/
theorem rowsTo_got (z : Nat → Nat) (S : List UInt8) (hS : S.length ≤ 100) (hz : ∀ i, z i < 18446744073709551616) (k M : Nat) (h : k < M) :
    vget (rowsTo z S M) ((rowsTo z S k).length : Nat) = (z k, (rowsTo z S k).length + Vn.vsz (z k), 0) ∧
    vcut (rowsTo z S M) ((rowsTo z S k).length + Vn.vsz (z k) : Nat) = (S, (rowsTo z S (k + 1)).length, 0) := by
  obtain ⟨r, hr⟩ := rowsTo_split z S k (M - (k + 1))
  rw [show k + 1 + (M - (k + 1)) = M by omega] at hr
  rw [hr]
  refine ⟨vget_put _ _ _ (hz k), ?_⟩
  have h := vcut_text (rowsTo z S k ++ Vn.vput (z k)) S r (by omega)
  rw [List.length_append, Vn.vput_length] at h
  rw [List.append_assoc] at h
  rw [h]
  simp only [rowsTo, List.length_append, Vn.vput_length, Prod.mk.injEq, true_and, and_true]
  omega

set_option maxHeartbeats 1000000 in
set_option maxRecDepth 100000 in
theorem rows_some (b off len cap : Nat) (z : Nat → Nat) (s : ByteArray) (w : World) (hlen : 1 ≤ len) (hlm : len ≤ cap) (_hm : cap ≤ maxLen) (hs : s.size ≤ maxLen) (hz : ∀ i, z i < 18446744073709551616)
    (hb : b < w.heap.size) (hcell : ∀ i, i < len → w.cell? ⟨b, off + i, none⟩ = some (.int .u64 (z i))) (hT : Tab w) :
    Calls Tryd.prog 7 #[.slice (some ⟨b, off, none⟩) len cap, .string s] w fun e w' => e = .returned (.bool true) ∧ Kept w w' := by
  unfold maxLen at hs
  obtain ⟨M, hM, hM1, hM2, hM30⟩ : ∃ M : Nat, min (len : Int) 30 = (M : Int) ∧ 1 ≤ M ∧ M ≤ len ∧ M ≤ 30 := ⟨min len 30, by omega, by omega, by omega, by omega⟩
  have HC := Lib.hid hcell
  have HZ := Lib.hid hz
  clear hcell hz
  go_enter Tryd.func7, Tryd.ntmps7
  go_wp2_with fail
  have ss := cut_size s 100
  simp only [Int.cast_ofNat_Int] at ss
  generalize s.extract 0 (min (s.size : Int) 100).toNat = S at ss ⊢
  clear hs
  go_region
  all_goals go_wp2
  have k0 : Kept w w.drew := Kept.drew (Kept.refl _)
  generalize w.drew = w0 at k0 ⊢
  clear hM
  have sl := size_len S
  have Sl := Lib.hid sl
  clear sl
  go_loopw [5, 7] (fun a i wr => ∃ (k : Nat) (A : ByteArray), k ≤ M ∧ i = .int .i64 k ∧ a = .string A ∧ A.data.toList = rowsTo z S.data.toList k ∧ Kept w wr) (fun _ i _ => M - (intOf i).toNat)
  case atStart => exact ⟨0, ⟨#[]⟩, Nat.zero_le _, rfl, rfl, rfl, k0⟩
  case round =>
    obtain ⟨k, A, hk, rfl, rfl, hA, kr⟩ := hrel
    have hAs : A.size ≤ 118 * k := by rw [← size_len A, hA]; exact rowsTo_len z _ (by rw [Sl.out]; exact ss) k
    have HA := Lib.hid hA
    clear hA
    by_cases hlt : k < M
    · have hc := (Below.cell kr (p := ⟨b, off + k, none⟩) hb).trans (HC.out k (by omega))
      have hzk := HZ.out k
      have tr := hT.kept kr
      go_wp2_with fail
      refine (put_any _ _ (by omega) (by omega) tr).mono ?_
      rintro e w1 ⟨rfl, e1⟩
      rw [Int.toNat_natCast]
      obtain ⟨p, hp, sp, lp⟩ := name_put (z k)
      rw [hp]
      have hv := Vn.vsz_pos (z k)
      have hps : p.size ≤ 9 := by rw [sp]; exact hv.2
      have Lp := Lib.hid lp
      clear hp sp lp hc hv
      have t1 := tr.kept e1
      go_wp2_with fail
      refine (text_any S _ (by omega) t1).mono ?_
      rintro e w2 ⟨rfl, e2⟩
      obtain ⟨t, ht, st, lt⟩ : ∃ t : ByteArray, str (Vn.vput S.size ++ S.data.toList) = .string t ∧ t.size = Vn.vsz S.size + S.size ∧ t.data.toList = Vn.vput S.size ++ S.data.toList :=
        ⟨⟨(Vn.vput S.size ++ S.data.toList).toArray⟩, rfl, by show (Vn.vput S.size ++ S.data.toList).toArray.size = _; simp [Vn.vput_length], rfl⟩
      rw [ht]
      have hv := Vn.vsz_pos S.size
      have hts : t.size ≤ 109 := by omega
      have Lt := Lib.hid lt
      clear ht st lt hv
      go_wp2
      go_roundw
      case rel => exact ⟨k + 1, A ++ (p ++ t), by omega, by go_num, rfl, by
                    rw [ByteArray.data_append, ByteArray.data_append, Array.toList_append, Array.toList_append, HA.out, Lt.out, ← toList_eq p, Lp.out, rowsTo, Sl.out], (kr.trans e1).trans e2⟩
      case measure => simp [intOf]; omega
    · obtain rfl : k = M := by omega
      go_wp2
      go_loopw [8, 9] (fun a i wq => ∃ j : Nat, j ≤ k ∧ i = .int .i64 j ∧ a = .int .i64 (rowsTo z S.data.toList j).length ∧ Kept w wq) (fun _ i _ => k - (intOf i).toNat)
      case atStart => exact ⟨0, Nat.zero_le _, rfl, rfl, kr⟩
      case round =>
        obtain ⟨j, hj, rfl, rfl, kq⟩ := hrel
        have hP := rowsTo_len z S.data.toList (by rw [Sl.out]; exact ss) j
        by_cases hlt : j < k
        · have hc := (Below.cell kq (p := ⟨b, off + j, none⟩) hb).trans (HC.out j (by omega))
          have hg := rowsTo_got z S.data.toList (by rw [Sl.out]; exact ss) HZ.out j k hlt
          rw [← HA.out] at hg
          obtain ⟨P, hPe⟩ : ∃ P, P = (rowsTo z S.data.toList j).length := ⟨_, rfl⟩
          obtain ⟨E, hEe⟩ : ∃ E, E = (rowsTo z S.data.toList (j + 1)).length := ⟨_, rfl⟩
          obtain ⟨T, hTe⟩ : ∃ T, T = P + Vn.vsz (z j) := ⟨_, rfl⟩
          have hv1 := Vn.vsz_pos (z j)
          have hv2 := Vn.vsz_pos S.data.toList.length
          have hTP : P < T := by omega
          have hET : T < E := by
            rw [hEe, hTe, hPe, rowsTo]
            simp only [List.length_append, Vn.vput_length]
            omega
          have hE2 := rowsTo_len z S.data.toList (by rw [Sl.out]; exact ss) (j + 1)
          rw [← hEe] at hE2
          rw [← hPe, ← hTe, ← hEe] at hg
          rw [← hPe]
          have Hg := Lib.hid hg
          have HE := Lib.hid hEe
          have hzj := HZ.out j
          clear hg hPe hTe hEe hP
          have tr := hT.kept kq
          go_wp2_with fail
          refine (get_any A _ _ (by unfold maxLen; omega) (by omega) (by omega) tr).mono ?_
          rintro e w1 ⟨rfl, e1⟩
          rw [Hg.out.1]
          unfold tup
          have t1 := tr.kept e1
          have hc1 := (Below.cell e1 (p := ⟨b, off + j, none⟩) (Nat.lt_of_lt_of_le hb kq.size)).trans hc
          go_wp2_with fail
          refine (cut_any A _ _ (by omega) (by omega) (by omega) t1).mono ?_
          rintro e w2 ⟨rfl, e2⟩
          rw [Hg.out.2]
          unfold tups
          simp only
          rw [show str S.data.toList = .string S from by simp [str]]
          go_wp2
          go_roundw
          case rel => exact ⟨j + 1, by omega, by go_num, by rw [HE.out], (kq.trans e1).trans e2⟩
          case measure => simp [intOf]; omega
        · obtain rfl : j = k := by omega
          have hAl : A.size = (rowsTo z S.data.toList j).length := by rw [← size_len A, HA.out]
          rw [← hAl]
          have HAl := Lib.hid hAl
          clear hAl hP
          go_wp2_with fail
          refine (fixed_any _ (hT.kept kq)).mono ?_
          rintro e w3 ⟨rfl, e3⟩
          go_wp2
          go_ret
          exact ⟨rfl, kq.trans e3⟩

set_option maxHeartbeats 1000000 in
set_option maxRecDepth 100000 in
theorem rows_none (av : Option Addr) (cap : Nat) (s : ByteArray) (w : World) (hs : s.size ≤ maxLen) (hT : Tab w) :
    Calls Tryd.prog 7 #[.slice av 0 cap, .string s] w fun e w' => e = .returned (.bool true) ∧ Kept w w' := by
  unfold maxLen at hs
  go_enter Tryd.func7, Tryd.ntmps7
  go_wp2_with fail
  generalize s.extract 0 (min (s.size : Int) 100).toNat = S
  clear hs
  go_region
  all_goals go_wp2
  rw [show min (0 : Int) 30 = 0 from rfl, show (0 : Int).toNat = 0 from rfl]
  have k0 : Kept w w.drew := Kept.drew (Kept.refl _)
  generalize w.drew = w0 at k0 ⊢
  go_loop [5, 7] (fun a i => a = .string ⟨#[]⟩ ∧ i = .int .i64 0) (fun _ _ => 0)
  case atStart => exact ⟨rfl, rfl⟩
  case round =>
    obtain ⟨rfl, rfl⟩ := hrel
    go_wp2
    go_loop [8, 9] (fun a i => a = .int .i64 0 ∧ i = .int .i64 0) (fun _ _ => 0)
    case atStart => exact ⟨rfl, rfl⟩
    case round =>
      obtain ⟨rfl, rfl⟩ := hrel
      go_wp2_with fail
      refine (fixed_any _ (hT.kept k0)).mono ?_
      rintro e w3 ⟨rfl, e3⟩
      go_wp2
      go_ret
      exact ⟨rfl, k0.trans e3⟩

theorem rows_walk (av : Option Addr) (len cap : Nat) (z : Nat → Nat) (s : ByteArray) (w : World) (hl : U64s w av len cap z) (hs : s.size ≤ maxLen) (hT : Tab w) :
    Calls Tryd.prog 7 #[.slice av len cap, .string s] w fun e w' => e = .returned (.bool true) ∧ Kept w w' := by
  obtain ⟨h1, h2, h3, h4⟩ := hl
  by_cases h0 : len = 0
  · subst h0
    exact rows_none av cap s w hs hT
  · rcases h4 with h4 | ⟨b, off, rfl, hb, hc⟩
    · exact absurd h4 h0
    · exact rows_some b off len cap z s w (by omega) h1 h2 hs h3 hb hc hT
end Go.Proofs.YtehcmdpnkappeaaDoor
