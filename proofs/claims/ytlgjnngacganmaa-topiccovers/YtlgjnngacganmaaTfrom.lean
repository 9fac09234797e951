/-
  The contracts of topic's functions, from the world in which a law began.
-/
import Derived.Test.YtlgjnngacganmaaTfixed
import Derived.Test.YtlgjnngacganmaaTmath2
import Derived.Deep.DeepCutAuto
namespace Go.Proofs.Ytlgjnngacganmaa
open Go.ChangeShapes Go.WideShapes Go.ChangeAt Go.RowKit

theorem fix_from {w w1 : World} (k : Kept w w1) : Calls Try.prog 20 #[] w1 fun e w' => e = .returned (.bool true) ∧ Kept w w' := (fixed3_any w1).mono fun _ _ h => ⟨h.1, k.trans h.2⟩
theorem filter_from {w w1 : World} (k : Kept w w1) (A : ByteArray) (hA : A.size ≤ 100000) (b : Bool) (h : Tp.filter A.data.toList = b) : Calls Try.prog 13 #[.string A] w1 fun e w' => e = .returned (.bool b) ∧ Kept w w' := by
  subst h; exact (filter_any A w1 (by omega)).mono fun _ _ h => ⟨h.1, k.trans h.2⟩
theorem right_from {w w1 : World} (k : Kept w w1) (A : ByteArray) (hA : A.size ≤ 100000) (b : Bool) (h : Tp.right A.data.toList = b) : Calls Try.prog 11 #[.string A] w1 fun e w' => e = .returned (.bool b) ∧ Kept w w' := by
  subst h; exact (right_any A w1 (by omega)).mono fun _ _ h => ⟨h.1, k.trans h.2⟩
theorem covers_from {w w1 : World} (k : Kept w w1) (A B : ByteArray) (hA : A.size ≤ 100000) (hB : B.size ≤ 100000) (b : Bool) (h : Tp.covers A.data.toList B.data.toList = b) : Calls Try.prog 23 #[.string A, .string B] w1 fun e w' => e = .returned (.bool b) ∧ Kept w w' := by
  subst h; exact (covers_any A B w1 (by omega) (by omega)).mono fun _ _ h => ⟨h.1, k.trans h.2⟩
theorem meet_from {w w1 : World} (k : Kept w w1) (A B : ByteArray) (hA : A.size ≤ 100000) (hB : B.size ≤ 100000) (b : Bool) (h : Tp.meet A.data.toList B.data.toList = b) : Calls Try.prog 25 #[.string A, .string B] w1 fun e w' => e = .returned (.bool b) ∧ Kept w w' := by
  subst h; exact (meet_any A B w1 (by omega) (by omega)).mono fun _ _ h => ⟨h.1, k.trans h.2⟩
theorem match_from {w w1 : World} (k : Kept w w1) (A B : ByteArray) (hA : A.size ≤ 100000) (hB : B.size ≤ 100000) (b : Bool) (h : Tp.match_ A.data.toList B.data.toList = b) : Calls Try.prog 21 #[.string A, .string B] w1 fun e w' => e = .returned (.bool b) ∧ Kept w w' := by
  subst h; exact (match_any A B w1 (by omega) (by omega)).mono fun _ _ h => ⟨h.1, k.trans h.2⟩

/-- a text cut off, with # behind it -/
theorem app_list (A B : ByteArray) : (A ++ B).data.toList = A.data.toList ++ B.data.toList := by rw [ByteArray.data_append, Array.toList_append]
/-- a text behind which another one stands, by name -/
theorem app_name (S : ByteArray) (l : Array UInt8) : ∃ G : ByteArray, S ++ ⟨l⟩ = G ∧ G.size = S.size + l.size ∧ G.data.toList = S.data.toList ++ l.toList := ⟨_, rfl, by rw [ByteArray.size_append]; rfl, by rw [app_list]⟩
/-- a text ahead of which another one stands, by name -/
theorem pre_name (S : ByteArray) (l : Array UInt8) : ∃ G : ByteArray, ⟨l⟩ ++ S = G ∧ G.size = l.size + S.size ∧ G.data.toList = l.toList ++ S.data.toList := ⟨_, rfl, by rw [ByteArray.size_append]; rfl, by rw [app_list]⟩
end Go.Proofs.Ytlgjnngacganmaa
