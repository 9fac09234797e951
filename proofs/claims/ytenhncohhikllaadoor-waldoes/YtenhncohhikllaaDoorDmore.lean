/-
  Contracts of a disk, in other forms.
-/
import Derived.Test.YtenhncohhikllaaDoorDfix
namespace Go.Proofs.YtenhncohhikllaaDoor
open Go.ChangeShapes Go.WideShapes Go.ChangeAt Go.RowKit

/-- one disk is as it was when the block of another one turned -/
theorem Dsk.past {w w' : World} {base b base' b' : Nat} {K K' : Dk.Fl} {v v' : Value} {ws ws' : List Dk.W} (h : Dsk w base b K v ws) (o : Dsk w base' b' K' v' ws') (hb : b ≠ b') (k : But (fun i => i = b') w w') : Dsk w' base b K v ws :=
  h.but k hb fun i e he => by
    obtain ⟨_, cur, hg⟩ := h.row.blk e
    subst he
    have := o.blk
    rw [hg] at this
    cases this
theorem crash_fine {b base : Nat} {K K' : Dk.Fl} {v : Value} {ws : List Dk.W} (u n : Int) (w : World) (h : Dsk w base b K v ws) (u0 : -9223372036854775808 ≤ u) (u1 : u ≤ 9223372036854775807) (hn : ((min u.toNat (Dk.total ws) : Nat) : Int) = n) (hk : Dk.after K ws u.toNat = K') :
    Calls Tryd.prog 22 #[.pointer (some ⟨b, 0, none⟩), .int .i64 u] w fun e w' => e = .returned (.int .i64 n) ∧ Dsk w' base b K' (.slice none 0 0) [] ∧ But (fun i => i = b) w w' := by
  subst hn hk
  exact crash_disk u w u0 u1 h
theorem now_nil (K : Dk.Fl) (k : Nat) (h : k < 4) : (if 0 ≤ (k : Int) ∧ (k : Int) < 4 then Dk.after K [] (Dk.total []) (k : Int).toNat else ⟨#[]⟩) = K k := by
  rw [if_pos (by omega), Int.toNat_natCast]; rfl
theorem kept_at (K : Dk.Fl) (k : Nat) (h : k < 4) : (if 0 ≤ (k : Int) ∧ (k : Int) < 4 then K (k : Int).toNat else ⟨#[]⟩) = K k := by
  rw [if_pos (by omega), Int.toNat_natCast]
theorem now_at (K : Dk.Fl) (ws : List Dk.W) (k : Nat) (h : k < 4) : (if 0 ≤ (k : Int) ∧ (k : Int) < 4 then Dk.after K ws (Dk.total ws) (k : Int).toNat else ⟨#[]⟩) = Dk.after K ws (Dk.total ws) k := by
  rw [if_pos (by omega), Int.toNat_natCast]
end Go.Proofs.YtenhncohhikllaaDoor
