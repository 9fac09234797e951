/-
  Rows of texts that are appended to and cut at their front: a law for one append.
-/
import Derived.Test.YtcachpcefeoolaaMown
import Derived.ArgAppend
import Derived.Deep.RegionLaw
namespace Go.Proofs.Ytcachpcefeoolaa
open Go.ChangeShapes Go.WideShapes Go.ChangeAt Go.RowKit

/-- a row of texts that may begin within its block; what lies behind it may be written -/
def OffS (w : World) (base : Nat) (v : Value) (xs : List (List UInt8)) : Prop :=
  (v = .slice none 0 0 ∧ xs = []) ∨ ∃ g off cap cur, v = .slice (some ⟨g, off, none⟩) xs.length cap ∧ xs.length ≤ cap ∧ cap ≤ maxLen ∧ base ≤ g ∧ w.heap[g]? = some (.cells cur 9 (0, 0)) ∧ off + cap ≤ cur.size ∧
    ∀ i x, xs[i]? = some x → cur[off + i]? = some (str x)
theorem OffS.nil (w : World) (base : Nat) : OffS w base (.slice none 0 0) [] := .inl ⟨rfl, rfl⟩
theorem OffS.mono {w : World} {base base' : Nat} {v : Value} {xs : List (List UInt8)} (h : OffS w base v xs) (k : base' ≤ base) : OffS w base' v xs := by
  rcases h with h | ⟨g, off, cap, cur, h1, h2, h3, h4, rest⟩
  · exact .inl h
  · exact .inr ⟨g, off, cap, cur, h1, h2, h3, Nat.le_trans k h4, rest⟩
theorem OffS.form {w : World} {base : Nat} {v : Value} {xs : List (List UInt8)} (h : OffS w base v xs) : ∃ a cap, v = .slice a xs.length cap := by
  rcases h with ⟨rfl, rfl⟩ | ⟨g, off, cap, cur, h1, _⟩
  · exact ⟨none, 0, rfl⟩
  · exact ⟨_, cap, h1⟩
theorem OffS.blk {w : World} {base : Nat} {v : Value} {xs : List (List UInt8)} (h : OffS w base v xs) {i : Nat} (e : v.ownBlock = some i) : base ≤ i ∧ ∃ cur, w.heap[i]? = some (.cells cur 9 (0, 0)) := by
  rcases h with ⟨rfl, _⟩ | ⟨g, off, cap, cur, rfl, _, _, hb, hg, _⟩
  · cases e
  · cases e; exact ⟨hb, cur, hg⟩
theorem OffS.but {S : Nat → Prop} {w w' : World} {base : Nat} {v : Value} {xs : List (List UInt8)} (h : OffS w base v xs) (k : But S w w') (hs : ∀ i, v.ownBlock = some i → ¬ S i) : OffS w' base v xs := by
  rcases h with h | ⟨g, off, cap, cur, rfl, h2, h3, h4, hg, rest⟩
  · exact .inl h
  · exact .inr ⟨g, off, cap, cur, rfl, h2, h3, h4, k.at hg (hs g rfl), rest⟩
theorem OffS.kept {w w' : World} {base : Nat} {v : Value} {xs : List (List UInt8)} (h : OffS w base v xs) (k : Kept w w') : OffS w' base v xs := h.but (S := fun _ => False) k.but fun _ _ h => h
theorem OffS.over {w w' : World} {base : Nat} {v : Value} {xs : List (List UInt8)} (h : OffS w base v xs) {c cap : Nat} {l : List ByteArray} (hc : Ch w c cap l) (k : But (fun i => i = c) w w') : OffS w' base v xs :=
  h.but k fun i e he => by
    obtain ⟨_, cur, hg⟩ := h.blk e
    obtain ⟨s, r, hd⟩ := hc
    rw [he, hd] at hg
    cases hg
theorem OffS.two {w w' : World} {base : Nat} {v : Value} {xs : List (List UInt8)} (h : OffS w base v xs) {c cap c' cap' : Nat} {l l' : List ByteArray} (hc : Ch w c cap l) (hc' : Ch w c' cap' l') (k : But (fun i => i = c ∨ i = c') w w') : OffS w' base v xs :=
  h.but k fun i e he => by
    obtain ⟨_, cur, hg⟩ := h.blk e
    rcases he with rfl | rfl
    · obtain ⟨s, r, hd⟩ := hc
      rw [hd] at hg
      cases hg
    · obtain ⟨s, r, hd⟩ := hc'
      rw [hd] at hg
      cases hg
theorem OffS.strs {w : World} {base : Nat} {v : Value} {xs : List (List UInt8)} (h : OffS w base v xs) : Strs w v xs := by
  rcases h with ⟨rfl, rfl⟩ | ⟨g, off, cap, cur, rfl, h2, h3, h4, hg, h5, h6⟩
  · exact ⟨none, 0, rfl, Nat.le_refl _, Nat.zero_le _, .inl rfl⟩
  · exact ⟨_, cap, rfl, h2, h3, .inr ⟨g, off, rfl, heap_lt hg, fun i x hx => by simp [World.cell?, hg, h6 i x hx]⟩⟩
theorem OwnS.off {w : World} {base : Nat} {v : Value} {xs : List (List UInt8)} (h : OwnS w base v xs) : OffS w base v xs := by
  rcases h.2 with ⟨rfl, hn⟩ | ⟨g, cap, cur, rfl, hb, hg, h1, h2, h3, h4⟩
  · exact .inl ⟨rfl, List.eq_nil_of_length_eq_zero hn⟩
  · refine .inr ⟨g, 0, cap, cur, rfl, h1, h2, hb, hg, by omega, fun i x hx => ?_⟩
    have hi : i < xs.length := by
      rcases Nat.lt_or_ge i xs.length with hlt | hge
      · exact hlt
      · rw [List.getElem?_eq_none hge] at hx; cases hx
    have e : (cur.toList.take (xs.length * 1))[i]? = (xs.map str)[i]? := by rw [h4]
    rw [List.getElem?_take, if_pos (by omega), List.getElem?_map, hx] at e
    simpa using e
/-- its front cut off -/
theorem OffS.tail {w : World} {base : Nat} {a : Option Addr} {n cap : Nat} {x : List UInt8} {xs : List (List UInt8)} (h : OffS w base (.slice a n cap) (x :: xs)) :
    ∃ g off, a = some ⟨g, off, none⟩ ∧ xs.length + 1 ≤ cap ∧ cap ≤ maxLen ∧ OffS w base (.slice (some ⟨g, off + 1, none⟩) xs.length (cap - 1)) xs ∧ (cap = 1 → OffS w base (.slice (some ⟨g, off, none⟩) xs.length 0) xs) := by
  rcases h with ⟨_, h0⟩ | ⟨g, off, cap', cur, e, h2, h3, h4, hg, h5, h6⟩
  · cases h0
  · cases e
    rw [List.length_cons] at h2
    refine ⟨g, off, rfl, h2, h3, .inr ⟨g, off + 1, cap - 1, cur, rfl, by omega, by omega, h4, hg, by omega, fun i y hy => by
      have := h6 (i + 1) y (by simpa using hy)
      rwa [show off + (i + 1) = off + 1 + i by omega] at this⟩, fun h1 => ?_⟩
    have hx : xs = [] := List.eq_nil_of_length_eq_zero (by omega)
    subst hx
    exact .inr ⟨g, off, 0, cur, rfl, Nat.le_refl _, Nat.zero_le _, h4, hg, by omega, fun i y hy => by cases hy⟩

/-- no block is of both -/
def Apart2 (v u : Value) : Prop := ∀ i, v.ownBlock = some i → u.ownBlock ≠ some i
theorem Apart2.symm {v u : Value} (h : Apart2 v u) : Apart2 u v := fun i h1 h2 => h i h2 h1
/-- a row is where it was, or in a new block -/
def Went (w : World) (v v' : Value) : Prop := v'.ownBlock = v.ownBlock ∨ ∀ i, v'.ownBlock = some i → w.heap.size ≤ i
theorem Apart2.went {w : World} {base : Nat} {v v' u : Value} {ys : List (List UInt8)} (h : Apart2 v u) (g : Went w v v') (o : OffS w base u ys) : Apart2 v' u := by
  intro i h1 h2
  rcases g with g | g
  · exact h i (g ▸ h1) h2
  · obtain ⟨_, cur, hg⟩ := o.blk h2
    have := g i h1
    have := heap_lt hg
    omega
theorem OffS.other {w w' : World} {base : Nat} {v u : Value} {ys : List (List UInt8)} (o : OffS w base u ys) (h : Apart2 v u) (k : But (fun i => v.ownBlock = some i) w w') : OffS w' base u ys := o.but k fun i h1 h2 => h i h2 h1
theorem kept_off {w0 w w' : World} {base : Nat} {v : Value} {xs : List (List UInt8)} (K : Kept w0 w) (o : OffS w base v xs) (hb : w0.heap.size ≤ base) (k : But (fun i => v.ownBlock = some i) w w') : Kept w0 w' :=
  But.after K k fun i hi e => by have := (o.blk e).1; omega
theorem Bx.off {w w' : World} {b c cap : Nat} {l : List ByteArray} (h : Bx w b c cap l) {base : Nat} {v : Value} {xs : List (List UInt8)} (o : OffS w base v xs) (k : But (fun i => v.ownBlock = some i) w w') : Bx w' b c cap l := by
  refine ⟨k.at h.blk fun e => ?_, h.ch.but k fun e => ?_, h.few, h.room, h.small⟩
  · obtain ⟨_, cur, hc⟩ := o.blk e
    rw [h.blk] at hc
    injection hc with hc
    injection hc with _ ht
    exact absurd ht (by decide)
  · obtain ⟨_, cur, hc⟩ := o.blk e
    obtain ⟨s, r, hd⟩ := h.ch
    rw [hd] at hc
    cases hc

theorem heap_setCells (b : Nat) (e : TypeId) (fz : Nat × Nat) : ∀ (vs : List Value) (o : Nat) (w : World) (cur : Array Value), w.heap[b]? = some (.cells cur e fz) →
    ∃ cur', (w.setCells b o vs).heap[b]? = some (.cells cur' e fz) ∧ cur'.size = cur.size ∧ But (fun i => i = b) w (w.setCells b o vs)
  | [], _, w, cur, h => ⟨cur, h, rfl, But.refl _ _⟩
  | v :: r, o, w, cur, h => by
    have h1 : (w.setCell ⟨b, o, none⟩ v).heap[b]? = some (.cells (cur.setIfInBounds o v) e fz) := by
      simp [World.setCell, Array.getElem?_modify, h]
    obtain ⟨cur', g1, g2, g3⟩ := heap_setCells b e fz r (o + 1) _ _ h1
    exact ⟨cur', g1, by rw [g2]; simp, (but_cell w b o v).trans g3 fun _ _ h => h⟩

/-- what an append of texts makes -/
theorem app_run (w : World) (base : Nat) (v u : Value) (xs ys : List (List UInt8)) (ty : TypeId) (h : OffS w base v xs) (hu : Strs w u ys) (hx : xs.length + ys.length ≤ 1000001) (hb : base ≤ w.heap.size) :
    ∃ v' w', (Builtin.append_ #[36, 36] ty #[v, u]).run Try.prog w = .ok v' w' ∧ OffS w' base v' (xs ++ ys) ∧ Went w v v' ∧ But (fun i => v.ownBlock = some i) w w' ∧ (v ≠ .slice none 0 0 ∨ ys ≠ [] → v' ≠ .slice none 0 0) := by
  obtain ⟨i0, hi, hz0, hz1, hz2⟩ := info_parts infoStr
  obtain ⟨ua, uc, rfl, u1, u2, u3⟩ := hu
  by_cases hy : ys = []
  · subst hy
    rw [List.append_nil]
    refine ⟨v, w, ?_, h, .inl rfl, But.refl _ _, fun e => e.elim id fun h => absurd rfl h⟩
    have hl : ∀ (x : Addr), (loadCells x 0).run Try.prog w = .ok #[] w := fun x => by simpa using run_loadCells_list (P := Try.prog) w x [] (by simp)
    rcases h with ⟨rfl, _⟩ | ⟨g, off, cap, cur, rfl, h1, _⟩
    · cases ua <;> simp [Builtin.append_, run_underlying Try.underlying36, sizeOf, typeInfo, hi, Builtin.lenOf, Builtin.firstCells, hl]
    · cases ua <;> simp [Builtin.append_, run_underlying Try.underlying36, sizeOf, typeInfo, hi, Builtin.lenOf, Builtin.firstCells, hl, h1, storeCells]
  · obtain ⟨ug, uo, rfl, ul, uat⟩ := u3.resolve_left hy
    have hnews : ∀ j x, (ys.map str)[j]? = some x → w.cell? ((⟨ug, uo, none⟩ : Addr).add j) = some x := fun j x hj => by
      rw [List.getElem?_map] at hj
      cases hq : ys[j]? with
      | none => rw [hq] at hj; cases hj
      | some q =>
        rw [hq] at hj
        cases hj
        rw [Go.WideShapes.add_plain]
        exact uat j q hq
    have hone : ∀ x ∈ ys.map str, x.oneCell' = true := fun x hx => by obtain ⟨q, _, rfl⟩ := List.mem_map.1 hx; rfl
    rcases h with ⟨rfl, rfl⟩ | ⟨g, off, cap, cur, rfl, h1, h2, h3, hg, h5, h6⟩
    · obtain ⟨v', w', hrun, r1, r2, r3⟩ := run_append_own (P := Try.prog) w w.heap.size 36 ty 9 i0 (.string ⟨#[]⟩) 1 16 Try.underlying36 hi hz0 hz1 hz2 rfl (by decide) (.slice none 0 0) 0 [] (World.ownsRow_nil _ _ _ _) ⟨ug, uo, none⟩ ys.length uc (ys.map str) (by simp) hnews hone (by unfold maxLen; simp at hx; omega) (by simp at hx; omega) (Nat.le_refl _)
      have o : OwnS w' w.heap.size v' ys := by unfold OwnS; simpa using r1
      refine ⟨v', w', hrun, o.off.mono hb, .inr fun i hi => (o.off.blk hi).1, ⟨r2.os, r2.tape, r2.output, r2.size, fun i hi hn => r2.block i hi (by simp [Value.ownBlock])⟩, fun _ e => ?_⟩
      exact hy (List.eq_nil_of_length_eq_zero (r3.1 e).2)
    · have holds : ∀ j x, (xs.map str)[j]? = some x → w.cell? ((⟨g, off, none⟩ : Addr).add j) = some x := fun j x hj => by
        rw [List.getElem?_map] at hj
        cases hq : xs[j]? with
        | none => rw [hq] at hj; cases hj
        | some q =>
          rw [hq] at hj
          cases hj
          rw [Go.WideShapes.add_plain]
          simp [World.cell?, hg, h6 j q hq]
      by_cases hr : xs.length + ys.length ≤ cap
      · have hsome : ∀ j, j < (ys.map str).length → (w.cell? ⟨g, off + xs.length * i0.size + j, none⟩).isSome = true := fun j hj => by
          rw [List.length_map] at hj
          simp only [World.cell?, hg, hz1]
          simp only [Option.isSome_none, Bool.false_eq_true, if_false]
          rw [Array.getElem?_eq_getElem (by omega)]; rfl
        have hrun := run_append_room_cells (P := Try.prog) w 36 ty 9 i0 Try.underlying36 hi g off xs.length cap ⟨ug, uo, none⟩ ys.length uc (ys.map str) (by rw [hz1]; simp) hnews hone hr hsome (fun j _ => by simp [World.frozen?, hg])
        obtain ⟨cur', g1, g2, g3⟩ := heap_setCells g 9 (0, 0) (ys.map str) (off + xs.length * i0.size) w cur hg
        refine ⟨_, _, hrun, .inr ⟨g, off, cap, cur', by rw [List.length_append], by rw [List.length_append]; exact hr, h2, h3, g1, by omega, fun i x hx => ?_⟩, .inl rfl, ⟨g3.os, g3.tape, g3.output, g3.size, fun i hi hn => g3.block i hi fun e => hn (by rw [e]; rfl)⟩, fun _ e => by cases e⟩
        have hc : ∀ j, (w.setCells g (off + xs.length * i0.size) (ys.map str)).cell? ⟨g, j, none⟩ = cur'[j]? := fun j => by simp [World.cell?, g1]
        rw [← hc]
        by_cases hj : i < xs.length
        · rw [World.cell?_setCells_out g _ _ _ _ (fun _ _ => Or.inl (by simp only; rw [hz1]; omega))]
          rw [List.getElem?_append_left hj] at hx
          simp [World.cell?, hg, h6 i x hx]
        · rw [List.getElem?_append_right (by omega)] at hx
          have ht : i - xs.length < ys.length := (List.getElem?_eq_some_iff.1 hx).1
          have := World.cell?_setCells_in g (ys.map str) (off + xs.length * i0.size) w hsome (i - xs.length) (by simpa using ht)
          rw [hz1, show off + xs.length * 1 + (i - xs.length) = off + i by omega] at this
          rw [hz1, this]
          have e2 := (List.getElem?_eq_some_iff.1 hx).2
          rw [List.getElem_map, e2]
      · obtain ⟨v', w', hrun, r1, r2⟩ := run_append_arg_grows (P := Try.prog) w 36 ty 9 i0 (.string ⟨#[]⟩) 1 16 Try.underlying36 hi hz0 hz1 hz2 rfl (by decide) ⟨g, off, none⟩ xs.length cap (xs.map str) (by simp) holds ⟨ug, uo, none⟩ ys.length uc (ys.map str) (by simp) hnews (by omega) (by unfold maxLen; omega) (by omega)
        have o : OwnS w' w.heap.size v' (xs ++ ys) := by unfold OwnS; rw [List.length_append, List.map_append]; exact r1
        refine ⟨v', w', hrun, o.off.mono hb, .inr fun i hi => (o.off.blk hi).1, ⟨r2.os, r2.tape, r2.output, r2.size, fun i hi hn => r2.block i hi (by simp)⟩, fun _ e => ?_⟩
        subst e
        obtain ⟨a, c, e⟩ := o.form
        simp only [Value.slice.injEq] at e
        have hl := e.2.1
        rw [List.length_append] at hl
        exact hy (List.eq_nil_of_length_eq_zero (by omega))

/-- an append, in the walk -/
theorem wp_app {w : World} {ops : Array Oper} {rest : List Oper} {o : Oper} {a : Act} {Q : Exit → Act → World → Prop} {base : Nat} {v u : Value} {xs ys : List (List UInt8)}
    (h : OffS w base v xs) (hu : Strs w u ys) (hx : xs.length + ys.length ≤ 1000001) (hb : base ≤ w.heap.size) (hgd : o.guard = none) (s x : Operand)
    (ho : o.op = .call { callee := .builtin .append, args := #[s, x], argTypes := #[36, 36] }) (hs : a.eval s = v) (hxe : a.eval x = u)
    (hK : ∀ v' w', OffS w' base v' (xs ++ ys) → Went w v v' → But (fun i => v.ownBlock = some i) w w' → (v ≠ .slice none 0 0 ∨ ys ≠ [] → v' ≠ .slice none 0 0) → wpList Try.prog ops Q rest (a.put o.dst v') w') :
    wpList Try.prog ops Q (o :: rest) a w := by
  obtain ⟨v', w', hrun, h1, h2, h3, h4⟩ := app_run w base v u xs ys o.type h hu hx hb
  refine wpList_plain hgd fun _ hK' => ?_
  unfold Oper.wp execOp
  simp only [ho, resolve, invoke, builtin, Sem.run_bind, Sem.run_pure, Result.andThen_ok, List.map_toArray, List.map_cons, List.map_nil, hs, hxe, hrun]
  exact hK' _ _ (hK v' w' h1 h2 h3 h4)
/-- an append, as a step of a region -/
theorem step_app {w : World} {ops : Array Oper} {o : Oper} {a : Act} {K : Act → World → Prop} {Q : Exit → Act → World → Prop} {E : Prop} {base : Nat} {v u : Value} {xs ys : List (List UInt8)}
    (h : OffS w base v xs) (hu : Strs w u ys) (hx : xs.length + ys.length ≤ 1000001) (hb : base ≤ w.heap.size) (hgd : o.guard = none) (s x : Operand)
    (ho : o.op = .call { callee := .builtin .append, args := #[s, x], argTypes := #[36, 36] }) (hs : a.eval s = v) (hxe : a.eval x = u)
    (hK : ∀ v' w', OffS w' base v' (xs ++ ys) → Went w v v' → But (fun i => v.ownBlock = some i) w w' → (v ≠ .slice none 0 0 ∨ ys ≠ [] → v' ≠ .slice none 0 0) → K (a.put o.dst v') w') :
    if Region.wanted o (yielded ops a.tmps) = true then Oper.wp Try.prog o a w K Q else E := by
  rw [if_pos (by simp [Region.wanted, hgd])]
  obtain ⟨v', w', hrun, h1, h2, h3, h4⟩ := app_run w base v u xs ys o.type h hu hx hb
  unfold Oper.wp execOp
  simp only [ho, resolve, invoke, builtin, Sem.run_bind, Sem.run_pure, Result.andThen_ok, List.map_toArray, List.map_cons, List.map_nil, hs, hxe, hrun]
  exact hK v' w' h1 h2 h3 h4
end Go.Proofs.Ytcachpcefeoolaa
