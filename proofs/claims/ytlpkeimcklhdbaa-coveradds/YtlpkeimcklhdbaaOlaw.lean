/-
  What the laws of layer 5 share.
-/
import Derived.Test.YtlpkeimcklhdbaaOfixed
import Derived.Test.YtlpkeimcklhdbaaOcut
namespace Go.Proofs.Ytlpkeimcklhdbaa
open Go.ChangeShapes Go.WideShapes Go.ChangeAt Go.RowKit

theorem StrArg.kept {w w' : World} {av : Option Addr} {len cap : Nat} {z : Nat → ByteArray} (h : StrArg w av len cap z) (k : Kept w w') : StrArg w' av len cap z := by
  obtain ⟨h1, h2, h3, h4⟩ := h
  refine ⟨h1, h2, h3, ?_⟩
  rcases h4 with h4 | ⟨b, off, rfl, hb, hc⟩
  · exact .inl h4
  · exact .inr ⟨b, off, rfl, Nat.lt_of_lt_of_le hb k.size, fun i hi => (Below.cell k (p := ⟨b, off + i, none⟩) hb).trans (hc i hi)⟩

/-- a row of few short texts -/
structure Few (w : World) (base : Nat) (v : Value) (xs : List (List UInt8)) : Prop where
  own : OwnN w base v xs
  len : xs.length ≤ 12
  short : ∀ x ∈ xs, x.length ≤ 120
theorem Few.kept {w w' : World} {base : Nat} {v : Value} {xs : List (List UInt8)} (h : Few w base v xs) (k : Kept w w') : Few w' base v xs := ⟨h.own.kept k, h.len, h.short⟩
theorem Few.strs {w : World} {base : Nat} {v : Value} {xs : List (List UInt8)} (h : Few w base v xs) : Strs w v xs := h.own.1.strs
theorem Few.s9 {w : World} {base : Nat} {v : Value} {xs : List (List UInt8)} (h : Few w base v xs) : ∀ x ∈ xs, x.length ≤ 900 := fun x hx => Nat.le_trans (h.short x hx) (by omega)
theorem Few.s10 {w : World} {base : Nat} {v : Value} {xs : List (List UInt8)} (h : Few w base v xs) : ∀ x ∈ xs, x.length ≤ 1000 := fun x hx => Nat.le_trans (h.short x hx) (by omega)
theorem Few.l10 {w : World} {base : Nat} {v : Value} {xs : List (List UInt8)} (h : Few w base v xs) : xs.length ≤ 1000 := Nat.le_trans h.len (by omega)
theorem Few.l4 {w : World} {base : Nat} {v : Value} {xs : List (List UInt8)} (h : Few w base v xs) : xs.length ≤ 400 := Nat.le_trans h.len (by omega)

theorem few_any (av : Option Addr) (len cap : Nat) (z : Nat → ByteArray) (w : World) (hl : StrArg w av len cap z) :
    Calls Try.prog 10 #[.slice av len cap] w fun e w' => ∃ v xs, e = .returned v ∧ Few w' w.heap.size v xs ∧ Kept w w' :=
  (lcut_any av len cap z w hl).mono fun _ _ ⟨v, h1, h2, h3⟩ => ⟨v, _, h1, ⟨h2, by rw [crow_len]; omega, crow_short z _⟩, h3⟩

theorem same_true (v1 v2 : Value) (xs : List (List UInt8)) (w : World) (h1 : Strs w v1 xs) (h2 : Strs w v2 xs) :
    Calls Try.prog 11 #[v1, v2] w fun e w' => e = .returned (.bool true) ∧ Kept w w' := same_to v1 v2 xs xs true w h1 h2 (by simp)

/-- a text, cut off -/
theorem cut_text (s : ByteArray) : ∃ S : ByteArray, s.extract 0 (min (s.size : Int) 120).toNat = S ∧ S.size ≤ 120 := by
  refine ⟨_, rfl, ?_⟩
  have := cut120 s
  rw [← str_size, this]
  exact List.length_take_le _ _
end Go.Proofs.Ytlpkeimcklhdbaa
