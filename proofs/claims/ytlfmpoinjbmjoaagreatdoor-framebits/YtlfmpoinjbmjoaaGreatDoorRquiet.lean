/-
  Regions that draw their order and whose callees leave every old block as it was: walked once, in the order of the text.
-/
import Derived.Test.YtlfmpoinjbmjoaaGreatDoorVbase
import Derived.BigQuiet
namespace Go.Proofs.YtlfmpoinjbmjoaaGreatDoor
open Go.ChangeShapes Go.WideShapes Go.ChangeAt Go.RowKit

/-- a world that has kept the old one -/
structure KW (w : World) where
  v : World
  h : Kept w v

theorem wp_region_kept {id : Nat} {Q : Exit → Act → World → Prop} {a : Act} {w : World} {l : List Oper} (hm : Tryz.prog.follows .mixedOrders = true) (hB : Region.lexB .any l.toArray = true)
    (h : wpQuiet Tryz.prog l.toArray (fun w' => ∃ p : KW w, w' = p.v) (fun a' => ∀ w', (∃ p : KW w, w' = p.v) → Q .normal a' w') l a) : (Code.region id l.toArray true).wp Tryz.prog Q a w :=
  wp_region_quiet (C := fun w' => ∃ p : KW w, w' = p.v) hm hB ⟨⟨_, Kept.drew (Kept.refl w)⟩, rfl⟩ (by simpa using h)
theorem KW.cell {w : World} {g a : Nat} {x : Value} (h : w.cell? ⟨g, a, none⟩ = some x) (p : KW w) : p.v.cell? ⟨g, a, none⟩ = some x :=
  (Below.cell p.h (p := ⟨g, a, none⟩) (World.block_lt_of_cell? w _ h)).trans h
theorem KW.calls {f : FuncId} {args : Array Value} {w : World} {v : Value} (p : KW w) (h : Calls Tryz.prog f args p.v fun e w' => e = .returned v ∧ Kept p.v w') :
    Calls Tryz.prog f args p.v fun e w'' => e = .returned v ∧ ∃ q : KW w, w'' = q.v :=
  h.mono fun _ w' ⟨he, hk⟩ => ⟨he, ⟨w', p.h.trans hk⟩, rfl⟩
end Go.Proofs.YtlfmpoinjbmjoaaGreatDoor
