/-
  The walk of the law CheckRows.
-/
import Derived.Test.YthkfkcjhmhjocaaDoorKfixed
import Derived.Test.YthkfkcjhmhjocaaDoorKref2
import Derived.Test.YthkfkcjhmhjocaaDoorKslice
namespace Go.Proofs.YthkfkcjhmhjocaaDoor
open Go.ChangeShapes Go.WideShapes Go.ChangeAt Go.RowKit

/-- the first k texts, cut off -/
def rowsOf (z : Nat → ByteArray) (k : Nat) : List (List UInt8) := (List.range k).map fun i => (z i).data.toList.take 40
theorem rowsOf_succ (z : Nat → ByteArray) (k : Nat) : rowsOf z (k + 1) = rowsOf z k ++ [(z k).data.toList.take 40] := by simp [rowsOf, List.range_succ]
theorem rowsOf_length (z : Nat → ByteArray) (k : Nat) : (rowsOf z k).length = k := by simp [rowsOf]
theorem rowsOf_short (z : Nat → ByteArray) (k : Nat) : ∀ r ∈ rowsOf z k, r.length ≤ 65536 := by
  intro r hr
  simp only [rowsOf, List.mem_map] at hr
  obtain ⟨i, _, rfl⟩ := hr
  rw [List.length_take]
  omega
theorem cat_succ (z : Nat → ByteArray) (k : Nat) : Ck.cat (rowsOf z (k + 1)) = Ck.cat (rowsOf z k) ++ Ck.seal_ ((z k).data.toList.take 40) := by
  rw [rowsOf_succ, Ck.cat_append]; simp [Ck.cat]
theorem cat_len (z : Nat → ByteArray) : ∀ k, (Ck.cat (rowsOf z k)).length ≤ 53 * k
  | 0 => by simp [rowsOf, Ck.cat]
  | k + 1 => by
    have := cat_len z k
    have h := Vn.vsz_pos ((z k).data.toList.take 40).length
    have h2 : ((z k).data.toList.take 40).length ≤ 40 := List.length_take_le _ _
    rw [cat_succ, List.length_append, Ck.seal_length]
    omega
theorem extract0 (s : ByteArray) (n : Nat) : (s.extract 0 n).data.toList = s.data.toList.take n := by
  have := extract_str s 0 n
  rw [Nat.zero_add] at this
  rw [this]
  simp
theorem cut40 (s : ByteArray) : (s.extract 0 (min (s.size : Int) 40).toNat).data.toList = s.data.toList.take 40 := by
  rw [extract0]
  by_cases h : s.size ≤ 40
  · rw [List.take_of_length_le (by rw [size_len]; omega), List.take_of_length_le (by rw [size_len]; omega)]
  · rw [show (min (s.size : Int) 40).toNat = 40 by omega]

set_option maxHeartbeats 1000000 in
set_option maxRecDepth 100000 in
theorem crows_walk (av : Option Addr) (len cap : Nat) (z : Nat → ByteArray) (w : World) (hl : StrArg w av len cap z) (hT : Tab w) :
    Calls Tryd.prog 9 #[.slice av len cap] w fun e w' => e = .returned (.bool true) ∧ Kept w w' := by
  obtain ⟨l1, l2, l3, l4⟩ := hl
  unfold maxLen at l2 l3
  have L3 := Lib.hid l3
  have L4 := Lib.hid l4
  clear l3 l4
  obtain ⟨i0, hi, hz0, hz1, hz2⟩ := info_parts infoStr
  have Hi := Lib.hid hi
  have Hz0 := Lib.hid hz0
  have Hz1 := Lib.hid hz1
  have Hz2 := Lib.hid hz2
  clear hi hz0 hz1 hz2
  go_enter Tryd.func9, Tryd.ntmps9
  go_wp2
  go_loopw [3, 4, 5] (fun a v i wr => ∃ (k : Nat) (A : ByteArray), k ≤ len ∧ k ≤ 12 ∧ i = .int .i64 k ∧ a = .string A ∧ A.data.toList = Ck.cat (rowsOf z k) ∧ OwnS wr w.heap.size v (rowsOf z k) ∧ Kept w wr) (fun _ _ i _ => len - (intOf i).toNat)
  case atStart => exact ⟨0, ⟨#[]⟩, Nat.zero_le _, Nat.zero_le _, rfl, rfl, rfl, own_empty _, Kept.alloc (Kept.refl _) _⟩
  case round =>
    obtain ⟨k, A, hk, hk12, rfl, rfl, hA, hown, kr⟩ := hrel
    have hAs : A.size ≤ 53 * k := by rw [← size_len A, hA]; exact cat_len z k
    have HA := Lib.hid hA
    clear hA
    have tr := hT.kept kr
    by_cases hlt : k < len ∧ k < 12
    · obtain ⟨hlt1, hlt2⟩ := hlt
      obtain ⟨b, off, rfl, hb, hc⟩ := L4.out.resolve_left (by omega)
      have hck := (Below.cell kr (p := ⟨b, off + k, none⟩) hb).trans (hc k hlt1)
      have hzk := L3.out k
      clear hc
      go_wp2
      go_quiet (fail)
      have kq : Kept wr (wr.drewN nq) := below_drewN (Kept.refl wr) nq
      generalize wr.drewN nq = wq at kq ⊢
      go_wp2_with fail
      have hS := cut40 (z k)
      have sS := cut_size (z k) 40
      simp only [Int.cast_ofNat_Int] at sS
      generalize (z k).extract 0 (min ((z k).size : Int) 40).toNat = S at hS sS ⊢
      have HS := Lib.hid hS
      clear hS hck hzk
      refine (seal_any S _ (by omega) (tr.kept kq)).mono ?_
      rintro e w2 ⟨rfl, k2⟩
      obtain ⟨q, hq, sq, lq⟩ := name_str (Ck.seal_ S.data.toList)
      rw [hq]
      have hz := Vn.vsz_pos S.size
      have sq2 : q.size ≤ 53 := by rw [sq, Ck.seal_length, size_len]; omega
      have Lq := Lib.hid lq
      clear hq sq lq hz
      have kr2 := (kr.trans kq).trans k2
      have hown2 := (hown.kept kq).kept k2
      have hrl := rowsOf_length z k
      have hrl2 : (rowsOf z k).length ≤ 12 := by omega
      have HR := Lib.hid hrl
      clear hrl hown
      go_wp2_with (first
        | (at_builtin; refine wpList_append_own _ rfl _ _ 31 rfl w.heap.size 9 i0 (.string ⟨#[]⟩) 1 16 Tryd.underlying31 Hi.out Hz0.out Hz1.out Hz2.out rfl (by decide) _ _ _ rfl (World.ownsRow.alloc hown2 _) ⟨w2.heap.size, 0, none⟩ 1 1 [.string S] rfl rfl (one_cell _ _) (one_one _) (by unfold maxLen; omega) (by omega) (by have := kr2.size; simp; omega) ?_))
      intro v' w3 hown3 hgrow _
      have kr3 : Kept w w3 := kept_grown (kr2.alloc _) hgrow (fun k hk => (World.ownsRow.lt hown2 k hk).1)
      have hown4 := own_snoc (x := S.data.toList) (by simp [str]) hown3
      clear hown3 hgrow hown2
      go_wp2
      go_roundw
      case rel => exact ⟨k + 1, A ++ q, by omega, by omega, by go_num, rfl, by
                    rw [ByteArray.data_append, Array.toList_append, HA.out, Lq.out, HS.out, cat_succ], by rw [rowsOf_succ, ← HS.out]; exact hown4, kr3⟩
      case measure => simp [intOf]; omega
    · have Hall := Lib.hid (Ck.all_cat (rowsOf z k) (rowsOf_short z k))
      have HAl : Hid ((Ck.cat (rowsOf z k)).length = A.size) := by show _ = _; rw [← HA.out, size_len]
      have hx : (k : Int) < len ∧ ¬ (k : Int) < 12 ∨ ¬ (k : Int) < len := by omega
      clear hlt
      rcases hx with ⟨h1, h2⟩ | h1
      all_goals
        go_wp2_with fail
        refine (all_any A _ (by omega) tr).mono ?_
        rintro e w2 ⟨v2, rfl, o2, k2⟩
        rw [HA.out, Hall.out] at o2
        rw [HA.out, Hall.out]
        simp only
        rw [HAl.out]
        go_wp2_with fail
        refine (same_any _ _ _ _ _ o2.strs (hown.kept k2).strs).mono ?_
        rintro e w3 ⟨rfl, k3⟩
        rw [show (rowsOf z k == rowsOf z k) = true from by simp]
        go_wp2_with fail
        refine (fixed2_any _ ((tr.kept k2).kept k3)).mono ?_
        rintro e w4 ⟨rfl, k4⟩
        go_wp2
        go_ret
        exact ⟨rfl, ((kr.trans k2).trans k3).trans k4⟩
end Go.Proofs.YthkfkcjhmhjocaaDoor
