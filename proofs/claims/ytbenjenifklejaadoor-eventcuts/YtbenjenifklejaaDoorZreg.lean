/-
  Regions that draw their order, walked step by step with the frame as a letter.
-/
import Derived.Test.YtbenjenifklejaaDoorVbase
import Derived.Deep.RegionHeld3
import Derived.BigRegion
import Derived.BigCall
namespace Go.Proofs.YtbenjenifklejaaDoor
open Go.ChangeShapes Go.WideShapes Go.ChangeAt Go.RowKit

/-- slot n of the frame holds v -/
def At (a : Act) (n : Nat) (v : Value) : Prop := a.tmps[n]? = some v
theorem At.eval {a : Act} {n : Nat} {v : Value} (h : At a n v) : a.eval (.tmp n) = v := by
  unfold At at h
  simp [Act.eval, Array.getD_eq_getD_getElem?, h]
theorem At.ne {a : Act} {n d : Nat} {v u : Value} (h : At a n v) (hd : d ≠ n) : At (a.put (some d) u) n v := by
  unfold At at *
  simp only [Act.put]
  rw [Array.getElem?_setIfInBounds_ne hd]
  exact h
theorem At.eq {a : Act} {d : Nat} {u : Value} (h : d < a.tmps.size) : At (a.put (some d) u) d u := by
  unfold At
  simp only [Act.put]
  rw [Array.getElem?_setIfInBounds_self_of_lt h]
theorem size_put (a : Act) (d : Nat) (u : Value) : (a.put (some d) u).tmps.size = a.tmps.size := by simp [Act.put]

/-- what an operation's guard asks for -/
def Wants (ops : Array Oper) (a : Act) : Option (Nat × Bool) → Prop
  | none => True
  | some (j, b) => ∃ d, (ops[j]?).bind (·.dst) = some d ∧ At a d (.bool b)
theorem Wants.wanted {ops : Array Oper} {a : Act} {o : Oper} (h : Wants ops a o.guard) : Region.wanted o (yielded ops a.tmps) = true := by
  unfold Region.wanted
  generalize o.guard = g at h
  match g, h with
  | none, _ => rfl
  | some (j, b), ⟨d, h1, h2⟩ =>
    unfold At at h2
    simp [yielded, h1, h2]

section
variable {P : Program} {ops : Array Oper} {Q : Exit → Act → World → Prop} {S : World → Prop} {fuel : Nat} {listed listed' : Array Bool} {a : Act} {w : World}

theorem stepV (i : Nat) {o : Oper} {v : Value} {d : Nat} (ho : ops[i]? = some o) (hd : o.dst = some d) (hns : Region.noSelect ops = true)
    (hf : Region.free .any ops listed i = true) (hr : (Region.ready .any ops listed).contains i = true) (hl : listed.setIfInBounds i true = listed')
    (hQ : ∀ c a w (d : Nat) v, Q (.panic c) (a.put (some d) v) w → Q (.panic c) a w) (hg : Wants ops a o.guard) (hS : S w)
    (hv : ∀ w, S w → (execOp a.eval o).run P w = .ok (.value v) w)
    (h : ∀ a', a' = a.put (some d) v → wpAnyH P .any ops Q S fuel listed' a' w) : wpAnyH P .any ops Q S (fuel + 1) listed a w := by
  refine wpAnyH_take ho hns hf hr (fun c a w h => hQ c a w d v (hd ▸ h)) (.inl ⟨hg.wanted, hv⟩) hS ?_
  rw [hl, hd]
  exact h _ rfl

theorem stepC (i : Nat) {o : Oper} {d : Nat} {f : FuncId} {args : Array Value} (ho : ops[i]? = some o) (hd : o.dst = some d)
    (hr : Region.ready .any ops listed = [i]) (hl : listed.setIfInBounds i true = listed')
    (hg : Wants ops a o.guard)
    (he : (execOp a.eval o).run P w = .ok (.enter f args) w)
    (h : Calls P f args w fun e w' => ∃ v, e = .returned v ∧ S w' ∧ ∀ a', a' = a.put (some d) v → wpAnyH P .any ops Q S fuel listed' a' w') : wpAnyH P .any ops Q S (fuel + 1) listed a w := by
  refine wpAnyH_all hr (by simp) ?_
  intro i' hi'
  rw [List.mem_singleton] at hi'
  subst hi'
  refine wpOp_step ho ?_
  intro K hK
  rw [if_pos hg.wanted]
  unfold Oper.wp
  rw [he, Oper.upon_enter]
  refine h.mono ?_
  rintro e w' ⟨v, rfl, hs, hh⟩
  refine hK _ _ ⟨hs, ?_⟩
  rw [hl, hd]
  exact hh _ rfl
/-- an operation that makes memory and alone may come up -/
theorem stepA (i : Nat) {o : Oper} {v : Value} {d : Nat} {w' : World} (ho : ops[i]? = some o) (hd : o.dst = some d)
    (hr : Region.ready .any ops listed = [i]) (hl : listed.setIfInBounds i true = listed')
    (hg : Wants ops a o.guard)
    (he : (execOp a.eval o).run P w = .ok (.value v) w') (hS : S w')
    (h : ∀ a', a' = a.put (some d) v → wpAnyH P .any ops Q S fuel listed' a' w') : wpAnyH P .any ops Q S (fuel + 1) listed a w := by
  refine wpAnyH_all hr (by simp) ?_
  intro i' hi'
  rw [List.mem_singleton] at hi'
  subst hi'
  refine wpOp_step ho ?_
  intro K hK
  rw [if_pos hg.wanted]
  unfold Oper.wp
  rw [he]
  refine hK _ _ ⟨hS, ?_⟩
  rw [hl, hd]
  exact h _ rfl
theorem At.mv {a a' : Act} {n d : Nat} {v u : Value} (h : At a n v) (e : a' = a.put (some d) u) (hd : Nat.beq d n = false) : At a' n v := by
  subst e
  exact h.ne (Nat.ne_of_beq_eq_false hd)
end
end Go.Proofs.YtbenjenifklejaaDoor
