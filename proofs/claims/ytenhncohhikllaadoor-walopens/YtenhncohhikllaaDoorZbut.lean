/-
  What a call keeps, but for some blocks.
-/
import Derived.Test.YtenhncohhikllaaDoorVbase
namespace Go.Proofs.YtenhncohhikllaaDoor
open Go.ChangeShapes Go.WideShapes Go.ChangeAt Go.RowKit

/-- nothing that was there has turned, but what S tells -/
structure But (S : Nat → Prop) (w w' : World) : Prop where
  os : w'.os = w.os
  tape : w'.tape = w.tape
  output : w'.output = w.output
  size : w.heap.size ≤ w'.heap.size
  block : ∀ i, i < w.heap.size → ¬ S i → w'.heap[i]? = w.heap[i]?

theorem But.refl (S : Nat → Prop) (w : World) : But S w w := ⟨rfl, rfl, rfl, Nat.le_refl _, fun _ _ _ => rfl⟩
theorem But.trans {S S' : Nat → Prop} {w w' w'' : World} (h : But S w w') (k : But S' w' w'') (hs : ∀ i, i < w.heap.size → S' i → S i) : But S w w'' :=
  ⟨k.os.trans h.os, k.tape.trans h.tape, k.output.trans h.output, Nat.le_trans h.size k.size, fun i hi hn => (k.block i (Nat.lt_of_lt_of_le hi h.size) (fun e => hn (hs i hi e))).trans (h.block i hi hn)⟩
theorem But.mono {S S' : Nat → Prop} {w w' : World} (h : But S w w') (hs : ∀ i, i < w.heap.size → S i → S' i) : But S' w w' := ⟨h.os, h.tape, h.output, h.size, fun i hi hn => h.block i hi (fun e => hn (hs i hi e))⟩
theorem Kept.but {S : Nat → Prop} {w w' : World} (h : Kept w w') : But S w w' := ⟨h.os, h.tape, h.output, h.size, fun i hi _ => Below.block h i hi⟩
theorem But.kept {S : Nat → Prop} {w w' : World} (h : But S w w') (hs : ∀ i, i < w.heap.size → ¬ S i) : Kept w w' := ⟨h.os, h.tape, h.output, h.size, fun i hi => h.block i hi (hs i hi)⟩
theorem But.after {S : Nat → Prop} {a w w' : World} (h : Kept a w) (k : But S w w') (hs : ∀ i, i < a.heap.size → ¬ S i) : Kept a w' :=
  ⟨k.os.trans h.os, k.tape.trans h.tape, k.output.trans h.output, Nat.le_trans h.size k.size, fun i hi => (k.block i (Nat.lt_of_lt_of_le hi h.size) (hs i hi)).trans (Below.block h i hi)⟩
theorem but_grown {w w' : World} {b : Nat} (h : w.grownBy w' (some b)) : But (fun i => i = b) w w' := ⟨h.os, h.tape, h.output, h.size, fun i hi hn => h.block i hi (fun e => hn (by cases e; rfl))⟩
theorem but_row {w w' : World} {row : Option Nat} (h : w.grownBy w' row) : But (fun i => row = some i) w w' := ⟨h.os, h.tape, h.output, h.size, fun i hi hn => h.block i hi (fun e => hn e.symm)⟩
theorem But.cell {S : Nat → Prop} {w w' : World} (h : But S w w') {p : Addr} (hp : p.block < w.heap.size) (hs : ¬ S p.block) : w'.cell? p = w.cell? p := World.cell?_of_block (h.block p.block hp hs)
theorem heap_lt {w : World} {i : Nat} {o : Obj} (h : w.heap[i]? = some o) : i < w.heap.size := (Array.getElem?_eq_some_iff.1 h).1
theorem But.at {S : Nat → Prop} {w w' : World} (h : But S w w') {i : Nat} {o : Obj} (hi : w.heap[i]? = some o) (hs : ¬ S i) : w'.heap[i]? = some o := (h.block i (heap_lt hi) hs).trans hi
end Go.Proofs.YtenhncohhikllaaDoor
