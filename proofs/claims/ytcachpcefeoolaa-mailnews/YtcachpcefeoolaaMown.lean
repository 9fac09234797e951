/-
  Rows of texts of the law's own beside boxes.
-/
import Derived.Test.YtcachpcefeoolaaMfix
namespace Go.Proofs.Ytcachpcefeoolaa
open Go.ChangeShapes Go.WideShapes Go.ChangeAt Go.RowKit

theorem OwnS.blk {w : World} {base : Nat} {v : Value} {xs : List (List UInt8)} (h : OwnS w base v xs) {i : Nat} (e : v.ownBlock = some i) : ∃ cur, w.heap[i]? = some (.cells cur 9 (0, 0)) := by
  rcases h.2 with ⟨rfl, _⟩ | ⟨g, cap, cur, rfl, _, hg, _⟩
  · cases e
  · cases e; exact ⟨cur, hg⟩
theorem Bx.row {w w' : World} {b c cap : Nat} {l : List ByteArray} (h : Bx w b c cap l) {base : Nat} {v : Value} {xs : List (List UInt8)} (o : OwnS w base v xs) (k : But (fun i => v.ownBlock = some i) w w') : Bx w' b c cap l := by
  refine ⟨k.at h.blk fun e => ?_, h.ch.but k fun e => ?_, h.few, h.room, h.small⟩
  · obtain ⟨cur, hc⟩ := o.blk e
    rw [h.blk] at hc
    injection hc with hc
    injection hc with _ ht
    exact absurd ht (by decide)
  · obtain ⟨cur, hc⟩ := o.blk e
    obtain ⟨s, r, hd⟩ := h.ch
    rw [hd] at hc
    cases hc
theorem OwnS.over {w w' : World} {base : Nat} {v : Value} {xs : List (List UInt8)} (h : OwnS w base v xs) {c cap : Nat} {l : List ByteArray} (hc : Ch w c cap l) (k : But (fun i => i = c) w w') : OwnS w' base v xs := by
  refine ⟨h.1, ?_⟩
  rcases h.2 with hn | ⟨g, cp, cur, hv, hb, hg, rest⟩
  · exact .inl hn
  · refine .inr ⟨g, cp, cur, hv, hb, k.at hg (fun e => ?_), rest⟩
    subst e
    obtain ⟨s, r, hd⟩ := hc
    rw [hd] at hg
    cases hg
theorem OwnS.two {w w' : World} {base : Nat} {v : Value} {xs : List (List UInt8)} (h : OwnS w base v xs) {c cap c' cap' : Nat} {l l' : List ByteArray} (hc : Ch w c cap l) (hc' : Ch w c' cap' l') (k : But (fun i => i = c ∨ i = c') w w') : OwnS w' base v xs := by
  refine ⟨h.1, ?_⟩
  rcases h.2 with hn | ⟨g, cp, cur, hv, hb, hg, rest⟩
  · exact .inl hn
  · refine .inr ⟨g, cp, cur, hv, hb, k.at hg (fun e => ?_), rest⟩
    rcases e with rfl | rfl
    · obtain ⟨s, r, hd⟩ := hc
      rw [hd] at hg
      cases hg
    · obtain ⟨s, r, hd⟩ := hc'
      rw [hd] at hg
      cases hg
theorem kept_row {w0 w w' : World} {base : Nat} {v : Value} {xs : List (List UInt8)} (K : Kept w0 w) (o : OwnS w base v xs) (hb : w0.heap.size ≤ base) (k : But (fun i => v.ownBlock = some i) w w') : Kept w0 w' :=
  But.after K k fun i hi e => by
    rcases o.2 with ⟨rfl, _⟩ | ⟨g, cap, cur, rfl, hb', _⟩
    · cases e
    · cases e; simp only at hi; omega

/-- the first k texts, cut off -/
def cutsOf (m : Int) (z : Nat → ByteArray) (k : Nat) : List ByteArray := (List.range k).map fun i => (z i).extract 0 (min ((z i).size : Int) m).toNat
theorem cutsOf_succ (m : Int) (z : Nat → ByteArray) (k : Nat) : cutsOf m z (k + 1) = cutsOf m z k ++ [(z k).extract 0 (min ((z k).size : Int) m).toNat] := by simp [cutsOf, List.range_succ]
theorem cutsOf_len (m : Int) (z : Nat → ByteArray) (k : Nat) : (cutsOf m z k).length = k := by simp [cutsOf]
theorem txs_snoc (l : List ByteArray) (x : ByteArray) : txs (l ++ [x]) = txs l ++ [x.data.toList] := by simp [txs]
theorem own_empty' (w : World) : OwnS (w.alloc (.cells #[] 9)) w.heap.size (.slice (some ⟨w.heap.size, 0, none⟩) 0 0) [] :=
  ⟨rfl, .inr ⟨w.heap.size, 0, #[], rfl, Nat.le_refl _, heap_alloc_new w _, Nat.le_refl _, Nat.zero_le _, rfl, rfl⟩⟩
end Go.Proofs.Ytcachpcefeoolaa
