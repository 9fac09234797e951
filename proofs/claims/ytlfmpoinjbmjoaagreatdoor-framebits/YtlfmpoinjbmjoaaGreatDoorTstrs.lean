/-
  Rows of texts in memory; the walk of the document's Same.
-/
import Derived.Test.YtlfmpoinjbmjoaaGreatDoorTlev
import Derived.OwnWalk
import Derived.Deep.AppendLies
import Derived.Deep.Onto
import Derived.Laws.OwnMore
namespace Go.Proofs.YtlfmpoinjbmjoaaGreatDoor
open Go.ChangeShapes Go.WideShapes Go.ChangeAt Go.RowKit

theorem name_str (l : List UInt8) : ∃ p : ByteArray, str l = .string p ∧ p.size = l.length ∧ p.data.toList = l := name_list l
theorem own_kept {w w' : World} {base : Nat} {e : TypeId} {size : Nat} {v : Value} {n : Nat} {xs : List Value} (h : w.ownsRow base e size v n xs) (k : Kept w w') : w'.ownsRow base e size v n xs := by
  refine ⟨h.1, ?_⟩
  rcases h.2 with hn | ⟨g, cap, cur, hv, hb, hg, rest⟩
  · exact .inl hn
  · refine .inr ⟨g, cap, cur, hv, hb, (Below.block k g ?_).trans hg, rest⟩
    rcases Nat.lt_or_ge g w.heap.size with hlt | hge
    · exact hlt
    · rw [Array.getElem?_eq_none hge] at hg; cases hg
theorem kept_grown {a w w' : World} {row : Option Nat} (h : Kept a w) (hg : w.grownBy w' row) (hr : ∀ k, row = some k → a.heap.size ≤ k) : Kept a w' := Below.grown h hg h.size hr

theorem infoStr : (Tryz.prog.info? 9).map (fun i => (i.zero, i.size, i.bytes)) = some (some (.string ⟨#[]⟩), 1, 16) := by kernel_rfl

/-- a row of texts of the call's own -/
def OwnS (w : World) (base : Nat) (v : Value) (xs : List (List UInt8)) : Prop := w.ownsRow base 9 1 v xs.length (xs.map str)
theorem OwnS.kept {w w' : World} {base : Nat} {v : Value} {xs : List (List UInt8)} (h : OwnS w base v xs) (k : Kept w w') : OwnS w' base v xs := own_kept h k
theorem OwnS.mono {w : World} {base base' : Nat} {v : Value} {xs : List (List UInt8)} (h : OwnS w base v xs) (k : base' ≤ base) : OwnS w base' v xs := World.ownsRow.mono h k
theorem OwnS.nil (w : World) (base : Nat) : OwnS w base (.slice none 0 0) [] := World.ownsRow_nil _ _ _ _

/-- texts that a slice holds -/
def Strs (w : World) (v : Value) (xs : List (List UInt8)) : Prop :=
  ∃ a cap, v = .slice a xs.length cap ∧ xs.length ≤ cap ∧ cap ≤ maxLen ∧ (xs = [] ∨ ∃ g off, a = some ⟨g, off, none⟩ ∧ g < w.heap.size ∧ ∀ i x, xs[i]? = some x → w.cell? ⟨g, off + i, none⟩ = some (str x))
theorem Strs.kept {w w' : World} {v : Value} {xs : List (List UInt8)} (h : Strs w v xs) (k : Kept w w') : Strs w' v xs := by
  obtain ⟨a, cap, rfl, h1, h2, h3⟩ := h
  refine ⟨a, cap, rfl, h1, h2, ?_⟩
  rcases h3 with h3 | ⟨g, off, rfl, hg, hc⟩
  · exact .inl h3
  · exact .inr ⟨g, off, rfl, Nat.lt_of_lt_of_le hg k.size, fun i x hx => (Below.cell k (p := ⟨g, off + i, none⟩) hg).trans (hc i x hx)⟩
theorem OwnS.strs {w : World} {base : Nat} {v : Value} {xs : List (List UInt8)} (h : OwnS w base v xs) : Strs w v xs := by
  rcases h.2 with ⟨rfl, hn⟩ | ⟨g, cap, cur, rfl, hb, hg, h1, h2, h3, h4⟩
  · have : xs = [] := List.eq_nil_of_length_eq_zero hn
    subst this
    exact ⟨none, 0, rfl, Nat.le_refl _, Nat.zero_le _, .inl rfl⟩
  · refine ⟨_, cap, rfl, h1, h2, .inr ⟨g, 0, rfl, ?_, fun i x hx => ?_⟩⟩
    · rcases Nat.lt_or_ge g w.heap.size with hlt | hge
      · exact hlt
      · rw [Array.getElem?_eq_none hge] at hg; cases hg
    · have hi : i < xs.length := by
        rcases Nat.lt_or_ge i xs.length with hlt | hge
        · exact hlt
        · rw [List.getElem?_eq_none hge] at hx; cases hx
      have := World.ownsRow.cellAt (w := w) (base := base) (e := 9) (size := 1) (g := g) (cap := cap) (n := xs.length) (xs := xs.map str) h i (by omega)
      rw [Nat.zero_add, this, List.getElem?_map, hx]
      rfl

theorem strs_at {w : World} {g off : Nat} {xs : List (List UInt8)} (hc : ∀ i x, xs[i]? = some x → w.cell? ⟨g, off + i, none⟩ = some (str x)) (i : Nat) (h : i < xs.length) :
    ∃ p : ByteArray, w.cell? ⟨g, off + i, none⟩ = some (.string p) ∧ p.toList = xs[i] := by
  obtain ⟨p, hp, _, lp⟩ := name_str xs[i]
  exact ⟨p, by rw [← hp]; exact hc i _ (List.getElem?_eq_getElem h), by rw [toList_eq, lp]⟩

/-- the same up to k -/
theorem same_end (xs ys : List (List UInt8)) (hl : xs.length = ys.length) (h : ∀ i (h1 : i < xs.length) (h2 : i < ys.length), xs[i] = ys[i]) : (xs == ys) = true := by
  rw [beq_iff_eq]
  exact List.ext_getElem hl h

theorem own_snoc {w1 : World} {base : Nat} {v' : Value} {xs : List (List UInt8)} {x : List UInt8} {p : ByteArray} (hp : str x = .string p) (h : w1.ownsRow base 9 1 v' (xs.length + 1) (xs.map str ++ [.string p])) : OwnS w1 base v' (xs ++ [x]) := by
  unfold OwnS
  rw [List.length_append, List.length_singleton, List.map_append, List.map_singleton, hp]
  exact h

theorem one_cell (w : World) (p : ByteArray) : ∀ (j : Nat) (u : Value), [Value.string p][j]? = some u → (w.alloc (.cells #[.string p] 9)).cell? ((⟨w.heap.size, 0, none⟩ : Addr).add j) = some u := by
  intro j u hj
  match j, hj with
  | 0, hj => simp at hj; subst hj; simp [Addr.add]
theorem one_one (p : ByteArray) : ∀ u ∈ [Value.string p], u.oneCell' = true := by
  intro u hu; simp at hu; subst hu; rfl

/-- one more text behind a row of the call's own: as an equation, for drawn regions -/
theorem append_text (w : World) (base : Nat) (v : Value) (xs : List (List UInt8)) (p : ByteArray) (hown : OwnS w base v xs) (hx : xs.length ≤ 1000001) (hbase : base ≤ w.heap.size) :
    ∃ g cap w1, (Builtin.append_ #[59, 59] 59 #[v, .slice (some ⟨w.heap.size, 0, none⟩) 1 1]).run Tryz.prog (w.alloc (.cells #[.string p] 9)) = .ok (.slice (some ⟨g, 0, none⟩) (xs.length + 1) cap) w1 ∧
      OwnS w1 base (.slice (some ⟨g, 0, none⟩) (xs.length + 1) cap) (xs ++ [p.data.toList]) ∧ (w.alloc (.cells #[.string p] 9)).grownBy w1 v.ownBlock := by
  obtain ⟨i0, hi, hz0, hz1, hz2⟩ := info_parts infoStr
  obtain ⟨v', w1, hrun, r1, r2, _⟩ := run_append_own (P := Tryz.prog) (w.alloc (.cells #[.string p] 9)) base 59 59 9 i0 (.string ⟨#[]⟩) 1 16 Tryz.underlying59 hi hz0 hz1 hz2 rfl (by decide) v xs.length (xs.map str) (World.ownsRow.alloc hown _) ⟨w.heap.size, 0, none⟩ 1 1 [.string p] rfl (one_cell _ _) (one_one _) (by unfold maxLen; omega) (by omega) (by simp; omega)
  obtain ⟨g, cap, rfl⟩ : ∃ g cap, v' = .slice (some ⟨g, 0, none⟩) (xs.length + 1) cap := by
    rcases r1.2 with ⟨_, h0⟩ | ⟨g, cap, _, rfl, _⟩
    · omega
    · exact ⟨g, cap, rfl⟩
  exact ⟨g, cap, w1, hrun, own_snoc (x := p.data.toList) rfl r1, r2⟩
end Go.Proofs.YtlfmpoinjbmjoaaGreatDoor
