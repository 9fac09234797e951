/-
  Rows of texts: how they are read and appended to.
-/
import Derived.Test.YtalebnhkidhglaaGreatTlevels
import Derived.Test.YtalebnhkidhglaaGreatTref
namespace Go.Proofs.YtalebnhkidhglaaGreat
open Go.ChangeShapes Go.WideShapes Go.ChangeAt Go.RowKit

theorem strs_get {w : World} {v : Value} {xs : List (List UInt8)} (h : Strs w v xs) : ∃ a cap, v = .slice a xs.length cap ∧ xs.length ≤ cap ∧ cap ≤ maxLen ∧
    ∀ k (_ : k < xs.length), ∃ b off, ∃ p : ByteArray, a = some ⟨b, off, none⟩ ∧ b < w.heap.size ∧ w.cell? ⟨b, off + k, none⟩ = some (.string p) ∧ p.data.toList = xs[k] := by
  obtain ⟨a, cap, rfl, h1, h2, h3⟩ := h
  refine ⟨a, cap, rfl, h1, h2, fun k hk => ?_⟩
  rcases h3 with rfl | ⟨g, off, rfl, hg, hc⟩
  · exact absurd hk (Nat.not_lt_zero _)
  · obtain ⟨p, c1, c2⟩ := strs_at hc k hk
    exact ⟨g, off, p, rfl, hg, c1, by rw [← toList_eq]; exact c2⟩

/-- one more text behind a row of the call's own -/
theorem wp_snoc {w : World} {ops : Array Oper} {rest : List Oper} {o : Oper} {a : Act} {Q : Exit → Act → World → Prop} {base : Nat} {v : Value} {xs : List (List UInt8)}
    (hown : OwnS w base v xs) (hx : xs.length ≤ 1000001) (hbase : base ≤ w.heap.size) (p : ByteArray) (hgd : o.guard = none) (s x : Operand)
    (ho : o.op = .call { callee := .builtin .append, args := #[s, x], argTypes := #[40, 40] }) (hs : a.eval s = v) (hxe : a.eval x = .slice (some ⟨w.heap.size, 0, none⟩) 1 1)
    (h : ∀ g cap w', OwnS w' base (.slice (some ⟨g, 0, none⟩) (xs.length + 1) cap) (xs ++ [p.data.toList]) → Below base w w' → wpList Tryz.prog ops Q rest (a.put o.dst (.slice (some ⟨g, 0, none⟩) (xs.length + 1) cap)) w') :
    wpList Tryz.prog ops Q (o :: rest) a (w.alloc (.cells #[.string p] 9)) := by
  obtain ⟨i0, hi, hz0, hz1, hz2⟩ := info_parts infoStr
  refine wpList_append_own _ hgd s x 40 ho base 9 i0 (.string ⟨#[]⟩) 1 16 Tryz.underlying40 hi hz0 hz1 hz2 rfl (by decide) v xs.length (xs.map str) hs (World.ownsRow.alloc hown _) ⟨w.heap.size, 0, none⟩ 1 1 [.string p] hxe rfl (one_cell _ _) (one_one _) (by unfold maxLen; omega) (by omega) (by simp; omega) ?_
  intro v' w' hown' hgrow _
  obtain ⟨g, cap, rfl⟩ : ∃ g cap, v' = .slice (some ⟨g, 0, none⟩) (xs.length + 1) cap := by
    rcases hown'.2 with ⟨_, h0⟩ | ⟨g, cap, _, rfl, _⟩
    · omega
    · exact ⟨g, cap, rfl⟩
  refine h g cap w' (own_snoc (x := p.data.toList) rfl hown') (((Below.refl base w).alloc hbase _).grown hgrow (by simp; omega) fun k hk => ?_)
  rcases hown.2 with ⟨rfl, _⟩ | ⟨g', cap', _, rfl, hb, _⟩
  · cases hk
  · cases hk; exact hb
end Go.Proofs.YtalebnhkidhglaaGreat
