/-
  A region that draws its order, by what holds of the operations that have come up: whatever order is drawn.
-/
import Derived.Test.YtenhncohhikllaaDoorVbase
import Derived.Deep.RegionHeld3
import Derived.BigRegion
import Derived.BigCall
namespace Go.Proofs.YtenhncohhikllaaDoor
open Go.ChangeShapes Go.WideShapes Go.ChangeAt Go.RowKit

/-- slot n of the frame holds v -/
def At (a : Act) (n : Nat) (v : Value) : Prop := a.tmps[n]? = some v
theorem At.eval {a : Act} {n : Nat} {v : Value} (h : At a n v) : a.eval (.tmp n) = v := by
  unfold At at h
  simp [Act.eval, Array.getD_eq_getD_getElem?, h]
theorem At.ne {a : Act} {n d : Nat} {v u : Value} (h : At a n v) (hd : d ≠ n) : At (a.put (some d) u) n v := by
  unfold At at *
  simp only [Act.put]
  rw [Array.getElem?_setIfInBounds_ne hd]
  exact h
theorem At.eq {a : Act} {d : Nat} {u : Value} (h : d < a.tmps.size) : At (a.put (some d) u) d u := by
  unfold At
  simp only [Act.put]
  rw [Array.getElem?_setIfInBounds_self_of_lt h]
theorem size_put (a : Act) (d : Nat) (u : Value) : (a.put (some d) u).tmps.size = a.tmps.size := by simp [Act.put]

/-- what an operation's guard asks for -/
def Wants (ops : Array Oper) (a : Act) : Option (Nat × Bool) → Prop
  | none => True
  | some (j, b) => ∃ d, (ops[j]?).bind (·.dst) = some d ∧ At a d (.bool b)
theorem Wants.wanted {ops : Array Oper} {a : Act} {o : Oper} (h : Wants ops a o.guard) : Region.wanted o (yielded ops a.tmps) = true := by
  unfold Region.wanted
  generalize o.guard = g at h
  match g, h with
  | none, _ => rfl
  | some (j, b), ⟨d, h1, h2⟩ =>
    unfold At at h2
    simp [yielded, h1, h2]

section
variable {P : Program} {ops : Array Oper} {Q : Exit → Act → World → Prop} {S : World → Prop} {fuel : Nat} {listed listed' : Array Bool} {a : Act} {w : World}

theorem stepV (i : Nat) {o : Oper} {v : Value} {d : Nat} (ho : ops[i]? = some o) (hd : o.dst = some d) (hns : Region.noSelect ops = true)
    (hf : Region.free .any ops listed i = true) (hr : (Region.ready .any ops listed).contains i = true) (hl : listed.setIfInBounds i true = listed')
    (hQ : ∀ c a w (d : Nat) v, Q (.panic c) (a.put (some d) v) w → Q (.panic c) a w) (hg : Wants ops a o.guard) (hS : S w)
    (hv : ∀ w, S w → (execOp a.eval o).run P w = .ok (.value v) w)
    (h : ∀ a', a' = a.put (some d) v → wpAnyH P .any ops Q S fuel listed' a' w) : wpAnyH P .any ops Q S (fuel + 1) listed a w := by
  refine wpAnyH_take ho hns hf hr (fun c a w h => hQ c a w d v (hd ▸ h)) (.inl ⟨hg.wanted, hv⟩) hS ?_
  rw [hl, hd]
  exact h _ rfl

theorem stepC (i : Nat) {o : Oper} {d : Nat} {f : FuncId} {args : Array Value} (ho : ops[i]? = some o) (hd : o.dst = some d)
    (hr : Region.ready .any ops listed = [i]) (hl : listed.setIfInBounds i true = listed')
    (hg : Wants ops a o.guard)
    (he : (execOp a.eval o).run P w = .ok (.enter f args) w)
    (h : Calls P f args w fun e w' => ∃ v, e = .returned v ∧ S w' ∧ ∀ a', a' = a.put (some d) v → wpAnyH P .any ops Q S fuel listed' a' w') : wpAnyH P .any ops Q S (fuel + 1) listed a w := by
  refine wpAnyH_all hr (by simp) ?_
  intro i' hi'
  rw [List.mem_singleton] at hi'
  subst hi'
  refine wpOp_step ho ?_
  intro K hK
  rw [if_pos hg.wanted]
  unfold Oper.wp
  rw [he, Oper.upon_enter]
  refine h.mono ?_
  rintro e w' ⟨v, rfl, hs, hh⟩
  refine hK _ _ ⟨hs, ?_⟩
  rw [hl, hd]
  exact hh _ rfl
/-- an operation that makes memory and alone may come up -/
theorem stepA (i : Nat) {o : Oper} {v : Value} {d : Nat} {w' : World} (ho : ops[i]? = some o) (hd : o.dst = some d)
    (hr : Region.ready .any ops listed = [i]) (hl : listed.setIfInBounds i true = listed')
    (hg : Wants ops a o.guard)
    (he : (execOp a.eval o).run P w = .ok (.value v) w') (hS : S w')
    (h : ∀ a', a' = a.put (some d) v → wpAnyH P .any ops Q S fuel listed' a' w') : wpAnyH P .any ops Q S (fuel + 1) listed a w := by
  refine wpAnyH_all hr (by simp) ?_
  intro i' hi'
  rw [List.mem_singleton] at hi'
  subst hi'
  refine wpOp_step ho ?_
  intro K hK
  rw [if_pos hg.wanted]
  unfold Oper.wp
  rw [he]
  refine hK _ _ ⟨hS, ?_⟩
  rw [hl, hd]
  exact h _ rfl
/-- an operation that writes, yields nothing, and alone may come up -/
theorem stepS (i : Nat) {o : Oper} {w' : World} (ho : ops[i]? = some o) (hd : o.dst = none)
    (hr : Region.ready .any ops listed = [i]) (hl : listed.setIfInBounds i true = listed')
    (hg : Wants ops a o.guard)
    (he : (execOp a.eval o).run P w = .ok .skip w') (hS : S w')
    (h : wpAnyH P .any ops Q S fuel listed' a w') : wpAnyH P .any ops Q S (fuel + 1) listed a w := by
  refine wpAnyH_all hr (by simp) ?_
  intro i' hi'
  rw [List.mem_singleton] at hi'
  subst hi'
  refine wpOp_step ho ?_
  intro K hK
  rw [if_pos hg.wanted]
  unfold Oper.wp
  rw [he]
  refine hK _ _ ⟨hS, ?_⟩
  rw [hl, hd]
  exact h
theorem At.mv {a a' : Act} {n d : Nat} {v u : Value} (h : At a n v) (e : a' = a.put (some d) u) (hd : Nat.beq d n = false) : At a' n v := by
  subst e
  exact h.ne (Nat.ne_of_beq_eq_false hd)
end
end Go.Proofs.YtenhncohhikllaaDoor

namespace Go.Proofs.YtenhncohhikllaaDoor
open Go.ChangeShapes Go.WideShapes Go.ChangeAt Go.RowKit

section
variable {P : Program} {ops : Array Oper} {Q : Exit → Act → World → Prop}
/-- how many have not come up -/
def todo (listed : Array Bool) : Nat := listed.toList.count false
theorem todo_set {listed : Array Bool} {i : Nat} (h : listed[i]? = some false) : todo (listed.setIfInBounds i true) + 1 = todo listed := by
  obtain ⟨hi, hv⟩ := Array.getElem?_eq_some_iff.1 h
  unfold todo
  have e : (listed.setIfInBounds i true).toList = listed.toList.set i true := by simp
  have h' : listed.toList[i]'(by simpa using hi) = false := by simpa using hv
  rw [e, List.count_set (by simpa using hi), h']
  have hpos : 0 < listed.toList.count false := List.count_pos_iff.2 (by rw [← h']; exact List.getElem_mem _)
  simp only [beq_self_eq_true, if_true, show ((true == false) = true) = False by simp, if_false]
  omega
theorem todo_none {listed : Array Bool} (h : todo listed = 0) (i : Nat) (hi : i < listed.size) : listed[i]? = some true := by
  unfold todo at h
  have hn := List.count_eq_zero.1 h
  rw [Array.getElem?_eq_getElem hi]
  cases hb : listed[i] with
  | true => rfl
  | false => exact absurd (by rw [← hb]; simp) hn
theorem listed_of {listed : Array Bool} {i : Nat} (h : listed.getD i false = true) : listed[i]? = some true := by
  rw [Array.getD_eq_getD_getElem?] at h
  cases hl : listed[i]? with
  | none => rw [hl] at h; cases h
  | some b => rw [hl] at h; simp at h; rw [h]
theorem unlisted_of {listed : Array Bool} {i : Nat} (h : listed.getD i true = false) : listed[i]? = some false := by
  rw [Array.getD_eq_getD_getElem?] at h
  cases hl : listed[i]? with
  | none => rw [hl] at h; cases h
  | some b => rw [hl] at h; simp at h; rw [h]
/-- where nothing may come up, all has -/
theorem all_listed (hedge : ∀ (i : Nat) (o : Oper), ops[i]? = some o → ∀ e ∈ o.after, e.on < i) {listed : Array Bool} (hsz : listed.size = ops.size) (hr : Region.ready .any ops listed = []) : ∀ i, i < ops.size → listed[i]? = some true := by
  intro i
  induction i using Nat.strongRecOn with
  | ind i ih =>
    intro hi
    cases hl : listed[i]? with
    | none => rw [Array.getElem?_eq_getElem (by omega)] at hl; cases hl
    | some b =>
      cases b with
      | true => rfl
      | false =>
        have hm : i ∈ Region.ready .any ops listed := mem_ready.2 ⟨by rw [Array.getD_eq_getD_getElem?, hl]; rfl, ops[i], Array.getElem?_eq_getElem hi, fun e he _ => by
          have hlt := hedge i ops[i] (Array.getElem?_eq_getElem hi) e he
          rw [Array.getD_eq_getD_getElem?, ih e.on hlt (by omega)]; rfl⟩
        rw [hr] at hm
        cases hm
theorem wpAny_inv (Inv : Array Bool → Act → World → Prop) (hedge : ∀ (i : Nat) (o : Oper), ops[i]? = some o → ∀ e ∈ o.after, e.on < i)
    (hstep : ∀ (listed : Array Bool) (a : Act) (w : World) (i : Nat) (o : Oper), Inv listed a w → ops[i]? = some o → listed[i]? = some false → (∀ e ∈ o.after, Region.binds .any e = true → listed[e.on]? = some true) →
      ∀ K : Act → World → Prop, (∀ a' w', Inv (listed.setIfInBounds i true) a' w' → K a' w') → if Region.wanted o (yielded ops a.tmps) = true then Oper.wp P o a w K Q else K (a.put o.dst undef) w)
    (hend : ∀ (listed : Array Bool) (a : Act) (w : World), (∀ i, i < ops.size → listed[i]? = some true) → Inv listed a w → Q .normal a w) :
    ∀ (fuel : Nat) (listed : Array Bool) (a : Act) (w : World), listed.size = ops.size → todo listed ≤ fuel → Inv listed a w → wpAny P .any ops Q fuel listed a w
  | 0, listed, a, w, hsz, hc, h => by
    have hall : ∀ i, i < ops.size → listed[i]? = some true := fun i hi => todo_none (by omega) i (by omega)
    refine ⟨?_, hend listed a w hall h⟩
    cases hr : Region.ready .any ops listed with
    | nil => rfl
    | cons j _ =>
      obtain ⟨h1, o, h2, _⟩ := mem_ready.1 (show j ∈ Region.ready .any ops listed by rw [hr]; simp)
      have := hall j (Array.getElem?_eq_some_iff.1 h2).1
      rw [unlisted_of h1] at this
      cases this
  | fuel + 1, listed, a, w, hsz, hc, h => by
    refine ⟨fun hr => hend listed a w (all_listed hedge hsz hr) h, fun i hi => ?_⟩
    obtain ⟨h1, o, h2, h3⟩ := mem_ready.1 hi
    have hl := unlisted_of h1
    refine wpOp_step h2 fun K' hK => hstep listed a w i o h h2 hl (fun e he hb => listed_of (h3 e he hb)) K' fun a' w' h' => hK a' w' ?_
    refine wpAny_inv Inv hedge hstep hend fuel _ a' w' (by simpa using hsz) ?_ h'
    have := todo_set hl
    omega
theorem wp_region_inv {id : Nat} {a : Act} {w : World} (hm : P.follows .mixedOrders = true) (Inv : Array Bool → Act → World → Prop) (hedge : ∀ (i : Nat) (o : Oper), ops[i]? = some o → ∀ e ∈ o.after, e.on < i)
    (hstep : ∀ (listed : Array Bool) (a : Act) (w : World) (i : Nat) (o : Oper), Inv listed a w → ops[i]? = some o → listed[i]? = some false → (∀ e ∈ o.after, Region.binds .any e = true → listed[e.on]? = some true) →
      ∀ K : Act → World → Prop, (∀ a' w', Inv (listed.setIfInBounds i true) a' w' → K a' w') → if Region.wanted o (yielded ops a.tmps) = true then Oper.wp P o a w K Q else K (a.put o.dst undef) w)
    (hend : ∀ (listed : Array Bool) (a : Act) (w : World), (∀ i, i < ops.size → listed[i]? = some true) → Inv listed a w → Q .normal a w)
    (h : Inv (Array.replicate ops.size false) a { w with drawn := w.drawn + 1 }) : (Code.region id ops true).wp P Q a w := by
  refine wp_region_any hm (wpAny_inv Inv hedge hstep hend _ _ _ _ (by simp) ?_ h)
  unfold todo
  simp
/-- a value that is yielded -/
theorem wp_yield {o : Oper} {a : Act} {w w' : World} {v : Value} {d : Nat} {K : Act → World → Prop} (hg : o.guard = none) (hd : o.dst = some d) (hr : (execOp a.eval o).run P w = .ok (.value v) w') (hK : K (a.put (some d) v) w') :
    if Region.wanted o (yielded ops a.tmps) = true then Oper.wp P o a w K Q else K (a.put o.dst undef) w := by
  rw [if_pos (by simp [Region.wanted, hg])]
  unfold Oper.wp
  rw [hr, Oper.upon_value, hd]
  exact hK
theorem wp_skips {o : Oper} {a : Act} {w w' : World} {K : Act → World → Prop} (hg : o.guard = none) (hd : o.dst = none) (hr : (execOp a.eval o).run P w = .ok .skip w') (hK : K a w') :
    if Region.wanted o (yielded ops a.tmps) = true then Oper.wp P o a w K Q else K (a.put o.dst undef) w := by
  rw [if_pos (by simp [Region.wanted, hg])]
  unfold Oper.wp
  rw [hr, Oper.upon_skip, hd]
  exact hK
theorem wp_enter {o : Oper} {a : Act} {w : World} {d : Nat} {f : FuncId} {args : Array Value} {K : Act → World → Prop} (hg : o.guard = none) (hd : o.dst = some d) (hr : (execOp a.eval o).run P w = .ok (.enter f args) w)
    (hK : Calls P f args w fun e w' => ∃ v, e = .returned v ∧ K (a.put (some d) v) w') :
    if Region.wanted o (yielded ops a.tmps) = true then Oper.wp P o a w K Q else K (a.put o.dst undef) w := by
  rw [if_pos (by simp [Region.wanted, hg])]
  unfold Oper.wp
  rw [hr, Oper.upon_enter, hd]
  refine hK.mono ?_
  rintro e w' ⟨v, rfl, h⟩
  exact h
end
end Go.Proofs.YtenhncohhikllaaDoor
