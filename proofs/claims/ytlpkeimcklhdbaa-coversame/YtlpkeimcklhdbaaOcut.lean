/-
  Rows of texts that are handed to the laws of layer 5: the walk of rivuletlaw05.Cut.
-/
import Derived.Test.YtlpkeimcklhdbaaOins
import Derived.Test.YtlpkeimcklhdbaaKslice
import Derived.Deep.RegionLaw
namespace Go.Proofs.Ytlpkeimcklhdbaa
open Go.ChangeShapes Go.WideShapes Go.ChangeAt Go.RowKit

/-- one more text behind a row of the call's own: a step of a region that draws its order -/
theorem step_snoc {w : World} {ops : Array Oper} {o : Oper} {a : Act} {K : Act → World → Prop} {Q : Exit → Act → World → Prop} {E : Prop} {base : Nat} {v : Value} {xs : List (List UInt8)}
    (hown : OwnS w base v xs) (n : Nat) (hn : xs.length = n) (hx : n ≤ 1000001) (hbase : base ≤ w.heap.size) (p : ByteArray) (l : List UInt8) (hpl : p.data.toList = l) (hgd : o.guard = none) (s x : Operand)
    (ho : o.op = .call { callee := .builtin .append, args := #[s, x], argTypes := #[22, 22] }) (hs : a.eval s = v) (hxe : a.eval x = .slice (some ⟨w.heap.size, 0, none⟩) 1 1)
    (h : ∀ g cap w', OwnN w' base (.slice (some ⟨g, 0, none⟩) (n + 1) cap) (xs ++ [l]) → Below base w w' → K (a.put o.dst (.slice (some ⟨g, 0, none⟩) (n + 1) cap)) w') :
    if Region.wanted o (yielded ops a.tmps) = true then Oper.wp Try.prog o a (w.alloc (.cells #[.string p] 9)) K Q else E := by
  subst hn
  subst hpl
  rw [if_pos (by simp [Region.wanted, hgd])]
  obtain ⟨i0, hi, hz0, hz1, hz2⟩ := info_parts infoStr
  refine wp_append_own _ s x 22 ho base 9 i0 (.string ⟨#[]⟩) 1 16 Try.underlying22 hi hz0 hz1 hz2 rfl (by decide) v xs.length (xs.map str) hs (World.ownsRow.alloc hown _) ⟨w.heap.size, 0, none⟩ 1 1 [.string p] hxe rfl (one_cell _ _) (one_one _) (by unfold maxLen; omega) (by omega) (by simp; omega) ?_
  intro v' w' hown' hgrow _
  obtain ⟨g, cap, rfl⟩ : ∃ g cap, v' = .slice (some ⟨g, 0, none⟩) (xs.length + 1) cap := by
    rcases hown'.2 with ⟨_, h0⟩ | ⟨g, cap, _, rfl, _⟩
    · omega
    · exact ⟨g, cap, rfl⟩
  refine h g cap w' ⟨own_snoc (x := p.data.toList) rfl hown', g, cap, by simp⟩ (((Below.refl base w).alloc hbase _).grown hgrow (by simp; omega) fun k hk => ?_)
  rcases hown.2 with ⟨rfl, _⟩ | ⟨g', cap', _, rfl, hb, _⟩
  · cases hk
  · cases hk; exact hb

/-- the first k texts, cut off -/
def crow (z : Nat → ByteArray) (k : Nat) : List (List UInt8) := (List.range k).map fun i => (z i).data.toList.take 120
theorem crow_succ (z : Nat → ByteArray) (k : Nat) : crow z (k + 1) = crow z k ++ [(z k).data.toList.take 120] := by simp [crow, List.range_succ]
theorem crow_len (z : Nat → ByteArray) (k : Nat) : (crow z k).length = k := by simp [crow]
theorem crow_short (z : Nat → ByteArray) (k : Nat) : ∀ x ∈ crow z k, x.length ≤ 120 := by
  intro r hr
  simp only [crow, List.mem_map] at hr
  obtain ⟨i, _, rfl⟩ := hr
  exact List.length_take_le _ _
theorem cut120 (s : ByteArray) : (s.extract 0 (min (s.size : Int) 120).toNat).data.toList = s.data.toList.take 120 := by
  have h0 : ∀ n, (s.extract 0 n).data.toList = s.data.toList.take n := fun n => by simp [ByteArray.data_extract]
  rw [h0]
  by_cases h : s.size ≤ 120
  · rw [List.take_of_length_le (by rw [str_size]; omega), List.take_of_length_le (by rw [str_size]; omega)]
  · rw [show (min (s.size : Int) 120).toNat = 120 by omega]

set_option maxHeartbeats 2000000 in
set_option maxRecDepth 100000 in
theorem lcut_any (av : Option Addr) (len cap : Nat) (z : Nat → ByteArray) (w : World) (hl : StrArg w av len cap z) :
    Calls Try.prog 10 #[.slice av len cap] w fun e w' => ∃ v, e = .returned v ∧ OwnN w' w.heap.size v (crow z (min len 12)) ∧ Kept w w' := by
  obtain ⟨l1, l2, l3, l4⟩ := hl
  unfold maxLen at l2 l3
  have L3 := Lib.hid l3
  have L4 := Lib.hid l4
  clear l3 l4
  go_enter Try.func10, Try.ntmps10
  go_wp2
  go_loopw [3, 4] (fun v i wr => ∃ k : Nat, k ≤ len ∧ k ≤ 12 ∧ i = .int .i64 k ∧ OwnN wr w.heap.size v (crow z k) ∧ Kept w wr) (fun _ i _ => len - (intOf i).toNat)
  case atStart => exact ⟨0, Nat.zero_le _, Nat.zero_le _, rfl, OwnN.empty _, Kept.alloc (Kept.refl _) _⟩
  case round =>
    obtain ⟨k, hk, hk12, rfl, hown, kr⟩ := hrel
    by_cases hlt : k < len ∧ k < 12
    · obtain ⟨hlt1, hlt2⟩ := hlt
      obtain ⟨b, off, rfl, hb, hc⟩ := L4.out.resolve_left (by omega)
      have hck := (Below.cell kr (p := ⟨b, off + k, none⟩) hb).trans (hc k hlt1)
      have hzk := L3.out k
      have hcl := crow_len z k
      have HO := Lib.hid hown
      have HCL := Lib.hid hcl
      clear hc hown hcl
      have HS := Lib.hid (cut120 (z k))
      have kd : Kept w wr.drew := kr.drew
      go_wp2
      have hmm : 0 ≤ min ((z k).size : Int) 120 ∧ min ((z k).size : Int) 120 ≤ ((z k).size : Int) := by omega
      go_region_law (refine step_snoc (HO.out.kept (Kept.drew (Kept.refl wr))).1 k HCL.out (by omega) kd.size ((z k).extract 0 (min ((z k).size : Int) 120).toNat) _ HS.out rfl (.tmp 16) (.tmp 28) rfl (by simp [Act.eval]) (by simp [Act.eval]) ?_; intro g' cap' w3 o3 b3)
      all_goals
        have O3 := Lib.hid o3
        have k3 : Kept w w3 := Below.trans kd b3
        clear o3 hmm
        go_wp2
        go_roundw
        case rel => exact ⟨k + 1, by omega, by omega, by go_num, by rw [crow_succ]; exact O3.out, k3⟩
        case measure => simp [intOf]; omega
    · have hx : (k : Int) < len ∧ ¬ (k : Int) < 12 ∨ ¬ (k : Int) < len := by omega
      have Hke := Lib.hid (show min len 12 = k by omega)
      clear hlt
      rcases hx with ⟨h1, h2⟩ | h1
      all_goals
        go_wp2
        go_ret
        exact ⟨_, rfl, by rw [Hke.out]; exact hown, kr⟩
end Go.Proofs.Ytlpkeimcklhdbaa
