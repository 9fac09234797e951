/-
  What being ahead is, of rows of bytes.
-/
import Derived.Test.YtenhncohhikllaaDoorVbase
namespace Go.Proofs.YtenhncohhikllaaDoor
open Go.ChangeShapes Go.WideShapes Go.ChangeAt Go.RowKit

theorem bl_irrefl : ∀ x : List UInt8, Op.bytesLess x x = false
  | [] => rfl
  | a :: x => by rw [Op.bytesLess, bl_irrefl x]; simp
theorem bl_cons (a b : UInt8) (x y : List UInt8) : Op.bytesLess (a :: x) (b :: y) = true ↔ a.toNat < b.toNat ∨ (a = b ∧ Op.bytesLess x y = true) := by
  rw [Op.bytesLess]; simp [UInt8.lt_iff_toNat_lt]
theorem bl_total : ∀ x y : List UInt8, x ≠ y → (Op.bytesLess x y = true ∧ Op.bytesLess y x = false) ∨ (Op.bytesLess x y = false ∧ Op.bytesLess y x = true)
  | [], [], h => absurd rfl h
  | [], _ :: _, _ => .inl ⟨rfl, rfl⟩
  | _ :: _, [], _ => .inr ⟨rfl, rfl⟩
  | a :: x, b :: y, h => by
    rcases Nat.lt_trichotomy a.toNat b.toNat with hlt | heq | hgt
    · refine .inl ⟨(bl_cons ..).2 (.inl hlt), ?_⟩
      rw [← Bool.not_eq_true, bl_cons]
      rintro (h' | ⟨rfl, _⟩) <;> omega
    · obtain rfl : a = b := UInt8.toNat_inj.1 heq
      have hxy : x ≠ y := fun e => h (by rw [e])
      rcases bl_total x y hxy with ⟨h1, h2⟩ | ⟨h1, h2⟩
      · refine .inl ⟨(bl_cons ..).2 (.inr ⟨rfl, h1⟩), ?_⟩
        rw [← Bool.not_eq_true, bl_cons, h2]
        rintro (h' | ⟨_, h'⟩)
        · omega
        · cases h'
      · refine .inr ⟨?_, (bl_cons ..).2 (.inr ⟨rfl, h2⟩)⟩
        rw [← Bool.not_eq_true, bl_cons, h1]
        rintro (h' | ⟨_, h'⟩)
        · omega
        · cases h'
    · refine .inr ⟨?_, (bl_cons ..).2 (.inl hgt)⟩
      rw [← Bool.not_eq_true, bl_cons]
      rintro (h' | ⟨rfl, _⟩) <;> omega
theorem bl_trans : ∀ x y z : List UInt8, Op.bytesLess x y = true → Op.bytesLess y z = true → Op.bytesLess x z = true
  | _, [], _, h, _ => by cases ‹List UInt8› <;> simp [Op.bytesLess] at h
  | _, _ :: _, [], _, h => by simp [Op.bytesLess] at h
  | [], _ :: _, _ :: _, _, _ => rfl
  | a :: x, b :: y, c :: z, h1, h2 => by
    rw [bl_cons] at h1 h2 ⊢
    rcases h1 with h1 | ⟨rfl, h1⟩ <;> rcases h2 with h2 | ⟨rfl, h2⟩
    · exact .inl (by omega)
    · exact .inl h1
    · exact .inl h2
    · exact .inr ⟨rfl, bl_trans x y z h1 h2⟩
theorem bl_append : ∀ x z : List UInt8, Op.bytesLess x (x ++ z) = !z.isEmpty
  | [], [] => rfl
  | [], _ :: _ => rfl
  | a :: x, z => by rw [List.cons_append, Op.bytesLess, bl_append x z]; simp
theorem bl_same (l : List UInt8) : ∀ p q : List UInt8, Op.bytesLess (l ++ p) (l ++ q) = Op.bytesLess p q := by
  induction l with
  | nil => intros; rfl
  | cons a l ih => intro p q; rw [List.cons_append, List.cons_append, Op.bytesLess, ih]; simp

theorem toList_eq (s : ByteArray) : s.toList = s.data.toList := Lib.toList_data s
/-- a string cut off -/
theorem cut_size (s : ByteArray) (k : Nat) : (s.extract 0 (min (s.size : Int) k).toNat).size ≤ k := by
  simp only [ByteArray.size_extract]; omega
/-- a number's bytes as a string, by name -/
theorem name_put (n : Nat) : ∃ p : ByteArray, str (Vn.vput n) = .string p ∧ p.size = Vn.vsz n ∧ p.toList = Vn.vput n :=
  ⟨⟨(Vn.vput n).toArray⟩, rfl, by rw [← Vn.vput_length]; rfl, by rw [toList_eq]⟩
end Go.Proofs.YtenhncohhikllaaDoor
