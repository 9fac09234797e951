/-
  What a call of a script does to a disk; the walk of the law's play.
-/
import Derived.Test.YtenhncohhikllaaDoorDcore3
namespace Go.Proofs.YtenhncohhikllaaDoor
open Go.ChangeShapes Go.WideShapes Go.ChangeAt Go.RowKit

namespace Dk
/-- the first 60 bytes -/
def cut (s : ByteArray) : ByteArray := s.extract 0 (min s.size 60)
theorem cut_size (s : ByteArray) : (cut s).size ≤ 60 := by unfold cut; rw [ByteArray.size_extract]; omega
/-- one write more, if it has units -/
def more (ws : List W) (x : W) : List W := if units x = 0 then ws else ws ++ [x]
/-- what an Append, a Replace is answered -/
def ansA (N : Fl) (f : Int) (s : ByteArray) : Int := if 0 ≤ f ∧ f < 4 then (if (N f.toNat).size + s.size ≤ 65536 then 0 else 2) else 1
def ansR (f : Int) (s : ByteArray) : Int := if 0 ≤ f ∧ f < 4 then (if s.size ≤ 65536 then 0 else 2) else 1
/-- a call: what is kept behind it, the writes, the answer; add: how a write is added -/
def step (add : List W → W → List W) (K : Fl) (ws : List W) (kd f : Int) (s : ByteArray) (n : Int) : Fl × List W × Int :=
  if kd = 0 then (K, (if ansA (after K ws (total ws)) f s = 0 then add ws ⟨f.toNat, s, false⟩ else ws), ansA (after K ws (total ws)) f s)
  else if kd = 1 then (K, (if ansR f s = 0 then add ws ⟨f.toNat, s, true⟩ else ws), ansR f s)
  else if kd = 2 then (after K ws (total ws), [], 0)
  else if kd = 3 then (after K ws n.toNat, [], (min n.toNat (total ws) : Nat))
  else (K, ws, 0)
theorem more_len (ws : List W) (x : W) : (more ws x).length ≤ ws.length + 1 := by unfold more; split <;> simp
theorem more_clean (ws : List W) (x : W) : more (clean ws) x = clean (ws ++ [x]) := by rw [clean_snoc]; rfl
end Dk

/-- behind a call of a script -/
def Played (w w' : World) (base b : Nat) (v : Value) (r : Dk.Fl × List Dk.W × Int) (n : Nat) : Prop :=
  ∃ v', Dsk w' base b r.1 v' r.2.1 ∧ r.2.1.length ≤ n ∧ RWent w v v' ∧ But (fun i => i = b ∨ v.ownBlock = some i) w w'
theorem Did.played {w w1 w' : World} {base b : Nat} {K : Dk.Fl} {v : Value} {ws : List Dk.W} {x : Dk.W} {a : Int} (k : Kept w w1) (h : Did w1 w' base b K v ws x) : Played w w' base b v (K, Dk.more ws x, a) (ws.length + 1) := by
  obtain ⟨v', h1, h2, h3⟩ := h
  exact ⟨v', h1, Dk.more_len _ _, h2.back k.size, (k.but.trans h3 fun _ _ h => h)⟩
theorem played_same {w w' : World} {base b : Nat} {K : Dk.Fl} {v : Value} {ws : List Dk.W} {a : Int} (h : Dsk w base b K v ws) (k : Kept w w') : Played w w' base b v (K, ws, a) (ws.length + 1) :=
  ⟨v, h.kept k, Nat.le_succ _, .inl rfl, k.but⟩

end Go.Proofs.YtenhncohhikllaaDoor
