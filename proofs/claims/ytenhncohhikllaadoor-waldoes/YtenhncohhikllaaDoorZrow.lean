/-
  Rows of cells of any type, appended to and cut at their front: a law for one append, whatever the elements.
-/
import Derived.Test.YtenhncohhikllaaDoorVbase
import Derived.Lib.Walk
import Derived.OwnWalk
import Derived.Deep.AppendLies
import Derived.Deep.Onto
import Derived.Laws.OwnMore
import Derived.ArgAppend
import Derived.Deep.RegionLaw
namespace Go.Proofs.YtenhncohhikllaaDoor
open Go.ChangeShapes Go.WideShapes Go.ChangeAt Go.RowKit

/-- nothing that was there has turned, but what S tells -/
structure But (S : Nat → Prop) (w w' : World) : Prop where
  os : w'.os = w.os
  tape : w'.tape = w.tape
  output : w'.output = w.output
  size : w.heap.size ≤ w'.heap.size
  block : ∀ i, i < w.heap.size → ¬ S i → w'.heap[i]? = w.heap[i]?

theorem But.refl (S : Nat → Prop) (w : World) : But S w w := ⟨rfl, rfl, rfl, Nat.le_refl _, fun _ _ _ => rfl⟩
theorem But.trans {S S' : Nat → Prop} {w w' w'' : World} (h : But S w w') (k : But S' w' w'') (hs : ∀ i, i < w.heap.size → S' i → S i) : But S w w'' :=
  ⟨k.os.trans h.os, k.tape.trans h.tape, k.output.trans h.output, Nat.le_trans h.size k.size, fun i hi hn => (k.block i (Nat.lt_of_lt_of_le hi h.size) (fun e => hn (hs i hi e))).trans (h.block i hi hn)⟩
theorem But.mono {S S' : Nat → Prop} {w w' : World} (h : But S w w') (hs : ∀ i, i < w.heap.size → S i → S' i) : But S' w w' := ⟨h.os, h.tape, h.output, h.size, fun i hi hn => h.block i hi (fun e => hn (hs i hi e))⟩
theorem Kept.but {S : Nat → Prop} {w w' : World} (h : Kept w w') : But S w w' := ⟨h.os, h.tape, h.output, h.size, fun i hi _ => Below.block h i hi⟩
theorem But.kept {S : Nat → Prop} {w w' : World} (h : But S w w') (hs : ∀ i, i < w.heap.size → ¬ S i) : Kept w w' := ⟨h.os, h.tape, h.output, h.size, fun i hi => h.block i hi (hs i hi)⟩
theorem But.after {S : Nat → Prop} {a w w' : World} (h : Kept a w) (k : But S w w') (hs : ∀ i, i < a.heap.size → ¬ S i) : Kept a w' :=
  ⟨k.os.trans h.os, k.tape.trans h.tape, k.output.trans h.output, Nat.le_trans h.size k.size, fun i hi => (k.block i (Nat.lt_of_lt_of_le hi h.size) (hs i hi)).trans (Below.block h i hi)⟩
theorem but_grown {w w' : World} {b : Nat} (h : w.grownBy w' (some b)) : But (fun i => i = b) w w' := ⟨h.os, h.tape, h.output, h.size, fun i hi hn => h.block i hi (fun e => hn (by cases e; rfl))⟩
theorem but_row {w w' : World} {row : Option Nat} (h : w.grownBy w' row) : But (fun i => row = some i) w w' := ⟨h.os, h.tape, h.output, h.size, fun i hi hn => h.block i hi (fun e => hn e.symm)⟩
theorem But.cell {S : Nat → Prop} {w w' : World} (h : But S w w') {p : Addr} (hp : p.block < w.heap.size) (hs : ¬ S p.block) : w'.cell? p = w.cell? p := World.cell?_of_block (h.block p.block hp hs)
theorem heap_lt {w : World} {i : Nat} {o : Obj} (h : w.heap[i]? = some o) : i < w.heap.size := (Array.getElem?_eq_some_iff.1 h).1
theorem But.at {S : Nat → Prop} {w w' : World} (h : But S w w') {i : Nat} {o : Obj} (hi : w.heap[i]? = some o) (hs : ¬ S i) : w'.heap[i]? = some o := (h.block i (heap_lt hi) hs).trans hi
end Go.Proofs.YtenhncohhikllaaDoor

namespace Go.Proofs.YtenhncohhikllaaDoor
open Go.ChangeShapes Go.WideShapes Go.ChangeAt Go.RowKit

/-- a type of rows: its elements, how many cells each has -/
structure RowTy (st et : TypeId) (sz bytes : Nat) (z : Value) : Prop where
  und : Tryd.prog.underlying st = some (.slice et)
  info : (Tryd.prog.info? et).map (fun i => (i.zero, i.size, i.bytes)) = some (some z, sz, bytes)
  zs : z.cells.size = sz
  pos : 0 < sz
  few : bytes ≤ 1000

/-- a row of n elements, as cells; it may begin within its block, and what lies behind it may be written -/
def OffV (et : TypeId) (sz : Nat) (w : World) (base : Nat) (v : Value) (n : Nat) (xs : List Value) : Prop :=
  xs.length = n * sz ∧ (∀ x ∈ xs, x.oneCell' = true) ∧ ((v = .slice none 0 0 ∧ n = 0) ∨ ∃ g off cap cur, v = .slice (some ⟨g, off, none⟩) n cap ∧ n ≤ cap ∧ cap ≤ maxLen ∧ base ≤ g ∧ w.heap[g]? = some (.cells cur et (0, 0)) ∧ off + cap * sz ≤ cur.size ∧
    ∀ i x, xs[i]? = some x → cur[off + i]? = some x)
/-- elements that a slice holds -/
def Src (sz : Nat) (w : World) (u : Value) (m : Nat) (ys : List Value) : Prop :=
  ys.length = m * sz ∧ (∀ y ∈ ys, y.oneCell' = true) ∧ ∃ a cap, u = .slice a m cap ∧ m ≤ cap ∧ cap ≤ maxLen ∧ (m = 0 ∨ ∃ g off, a = some ⟨g, off, none⟩ ∧ g < w.heap.size ∧ ∀ i y, ys[i]? = some y → w.cell? ⟨g, off + i, none⟩ = some y)

theorem OffV.nil (et : TypeId) (sz : Nat) (w : World) (base : Nat) : OffV et sz w base (.slice none 0 0) 0 [] := ⟨by simp, by simp, .inl ⟨rfl, rfl⟩⟩
theorem OffV.mono {et : TypeId} {sz : Nat} {w : World} {base base' : Nat} {v : Value} {n : Nat} {xs : List Value} (h : OffV et sz w base v n xs) (k : base' ≤ base) : OffV et sz w base' v n xs := by
  obtain ⟨h0, h1, h⟩ := h
  refine ⟨h0, h1, ?_⟩
  rcases h with h | ⟨g, off, cap, cur, e1, e2, e3, e4, rest⟩
  · exact .inl h
  · exact .inr ⟨g, off, cap, cur, e1, e2, e3, Nat.le_trans k e4, rest⟩
theorem OffV.form {et : TypeId} {sz : Nat} {w : World} {base : Nat} {v : Value} {n : Nat} {xs : List Value} (h : OffV et sz w base v n xs) : ∃ a cap, v = .slice a n cap := by
  obtain ⟨_, _, h⟩ := h
  rcases h with ⟨rfl, rfl⟩ | ⟨g, off, cap, cur, h1, _⟩
  · exact ⟨none, 0, rfl⟩
  · exact ⟨_, cap, h1⟩
theorem OffV.blk {et : TypeId} {sz : Nat} {w : World} {base : Nat} {v : Value} {n : Nat} {xs : List Value} (h : OffV et sz w base v n xs) {i : Nat} (e : v.ownBlock = some i) : base ≤ i ∧ ∃ cur, w.heap[i]? = some (.cells cur et (0, 0)) := by
  obtain ⟨_, _, h⟩ := h
  rcases h with ⟨rfl, _⟩ | ⟨g, off, cap, cur, rfl, _, _, hb, hg, _⟩
  · cases e
  · cases e; exact ⟨hb, cur, hg⟩
theorem OffV.but {S : Nat → Prop} {et : TypeId} {sz : Nat} {w w' : World} {base : Nat} {v : Value} {n : Nat} {xs : List Value} (h : OffV et sz w base v n xs) (k : But S w w') (hs : ∀ i, v.ownBlock = some i → ¬ S i) : OffV et sz w' base v n xs := by
  obtain ⟨h0, h1, h⟩ := h
  refine ⟨h0, h1, ?_⟩
  rcases h with h | ⟨g, off, cap, cur, rfl, h2, h3, h4, hg, rest⟩
  · exact .inl h
  · exact .inr ⟨g, off, cap, cur, rfl, h2, h3, h4, k.at hg (hs g rfl), rest⟩
theorem OffV.kept {et : TypeId} {sz : Nat} {w w' : World} {base : Nat} {v : Value} {n : Nat} {xs : List Value} (h : OffV et sz w base v n xs) (k : Kept w w') : OffV et sz w' base v n xs := h.but (S := fun _ => False) k.but fun _ _ h => h
/-- a block of another type is not its -/
theorem OffV.other {et : TypeId} {sz : Nat} {w w' : World} {base : Nat} {v : Value} {n : Nat} {xs : List Value} (h : OffV et sz w base v n xs) {b : Nat} {c : Array Value} {t : TypeId} {fz : Nat × Nat} (hb : w.heap[b]? = some (.cells c t fz)) (ht : t ≠ et) (k : But (fun i => i = b) w w') : OffV et sz w' base v n xs :=
  h.but k fun i e he => by
    obtain ⟨_, cur, hg⟩ := h.blk e
    subst he
    rw [hg] at hb
    injection hb with hb
    injection hb with _ h2
    exact ht h2.symm
theorem OffV.src {et : TypeId} {sz : Nat} {w : World} {base : Nat} {v : Value} {n : Nat} {xs : List Value} (h : OffV et sz w base v n xs) : Src sz w v n xs := by
  obtain ⟨h0, h1, h⟩ := h
  refine ⟨h0, h1, ?_⟩
  rcases h with ⟨rfl, rfl⟩ | ⟨g, off, cap, cur, rfl, h2, h3, h4, hg, h5, h6⟩
  · exact ⟨none, 0, rfl, Nat.le_refl _, Nat.zero_le _, .inl rfl⟩
  · exact ⟨_, cap, rfl, h2, h3, .inr ⟨g, off, rfl, heap_lt hg, fun i x hx => by simp [World.cell?, hg, h6 i x hx]⟩⟩
theorem Src.kept {sz : Nat} {w w' : World} {u : Value} {m : Nat} {ys : List Value} (h : Src sz w u m ys) (k : Kept w w') : Src sz w' u m ys := by
  obtain ⟨h0, h1, a, cap, rfl, h2, h3, h4⟩ := h
  refine ⟨h0, h1, a, cap, rfl, h2, h3, ?_⟩
  rcases h4 with h4 | ⟨g, off, rfl, hg, hc⟩
  · exact .inl h4
  · exact .inr ⟨g, off, rfl, Nat.lt_of_lt_of_le hg k.size, fun i x hx => (Below.cell k (p := ⟨g, off + i, none⟩) hg).trans (hc i x hx)⟩
/-- one element that was just laid down -/
theorem Src.one {sz : Nat} (w : World) (ys : List Value) (et : TypeId) (hl : ys.length = sz) (h1 : ∀ y ∈ ys, y.oneCell' = true) : Src sz (w.alloc (.cells ys.toArray et)) (.slice (some ⟨w.heap.size, 0, none⟩) 1 1) 1 ys :=
  ⟨by rw [hl, Nat.one_mul], h1, _, 1, rfl, Nat.le_refl _, by decide, .inr ⟨_, 0, rfl, by rw [World.size_alloc]; exact Nat.lt_succ_self _, fun i y hy => by
    rw [World.cell?_alloc_at _ _ _ _ rfl]
    simpa using hy⟩⟩

/-- no block is of both -/
def RApart (v u : Value) : Prop := ∀ i, v.ownBlock = some i → u.ownBlock ≠ some i
theorem RApart.symm {v u : Value} (h : RApart v u) : RApart u v := fun i h1 h2 => h i h2 h1
/-- a row is where it was, or in a new block -/
def RWent (w : World) (v v' : Value) : Prop := v'.ownBlock = v.ownBlock ∨ ∀ i, v'.ownBlock = some i → w.heap.size ≤ i
theorem RWent.back {w w0 : World} {v v' : Value} (h : RWent w v v') (k : w0.heap.size ≤ w.heap.size) : RWent w0 v v' := h.imp id fun h i e => Nat.le_trans k (h i e)
theorem RWent.trans {w w1 : World} {v v1 v2 : Value} (h : RWent w v v1) (k : RWent w1 v1 v2) (hs : w.heap.size ≤ w1.heap.size) : RWent w v v2 := by
  rcases k with k | k
  · rcases h with h | h
    · exact .inl (k.trans h)
    · exact .inr fun i e => h i (k ▸ e)
  · exact .inr fun i e => Nat.le_trans hs (k i e)
theorem RApart.went {et : TypeId} {sz : Nat} {w : World} {base : Nat} {v v' u : Value} {n : Nat} {ys : List Value} (h : RApart v u) (g : RWent w v v') (o : OffV et sz w base u n ys) : RApart v' u := by
  intro i h1 h2
  rcases g with g | g
  · exact h i (g ▸ h1) h2
  · obtain ⟨_, cur, hg⟩ := o.blk h2
    have := g i h1
    have := heap_lt hg
    omega
theorem rapart_nil (u : Value) : RApart (.slice none 0 0) u := fun i h => by cases h

theorem but_cell0 (w : World) (g i : Nat) (v : Value) : But (fun j => j = g) w (w.setCell ⟨g, i, none⟩ v) :=
  ⟨rfl, rfl, rfl, by simp [World.setCell], fun j _ hn => Below.heap_setCell w ⟨g, i, none⟩ v j hn⟩
theorem heap_setCells0 (b : Nat) (e : TypeId) (fz : Nat × Nat) : ∀ (vs : List Value) (o : Nat) (w : World) (cur : Array Value), w.heap[b]? = some (.cells cur e fz) →
    ∃ cur', (w.setCells b o vs).heap[b]? = some (.cells cur' e fz) ∧ cur'.size = cur.size ∧ But (fun i => i = b) w (w.setCells b o vs)
  | [], _, w, cur, h => ⟨cur, h, rfl, But.refl _ _⟩
  | v :: r, o, w, cur, h => by
    have h1 : (w.setCell ⟨b, o, none⟩ v).heap[b]? = some (.cells (cur.setIfInBounds o v) e fz) := by
      simp [World.setCell, Array.getElem?_modify, h]
    obtain ⟨cur', g1, g2, g3⟩ := heap_setCells0 b e fz r (o + 1) _ _ h1
    exact ⟨cur', g1, by rw [g2]; simp, (but_cell0 w b o v).trans g3 fun _ _ h => h⟩
theorem own_offv {et : TypeId} {sz : Nat} {w : World} {base : Nat} {v : Value} {n : Nat} {xs : List Value} (h : w.ownsRow base et sz v n xs) (h1 : ∀ x ∈ xs, x.oneCell' = true) : OffV et sz w base v n xs := by
  refine ⟨h.1, h1, ?_⟩
  rcases h.2 with ⟨rfl, hn⟩ | ⟨g, cap, cur, rfl, hb, hg, h1, h2, h3, h4⟩
  · exact .inl ⟨rfl, hn⟩
  · refine .inr ⟨g, 0, cap, cur, rfl, h1, h2, hb, hg, by omega, fun i x hx => ?_⟩
    have hi : i < xs.length := (List.getElem?_eq_some_iff.1 hx).1
    have e : (cur.toList.take (n * sz))[i]? = xs[i]? := by rw [h4]
    rw [List.getElem?_take, if_pos (by rw [← h.1]; exact hi), hx] at e
    simpa using e

/-- what an append makes -/
theorem rapp_run {st et : TypeId} {sz bytes : Nat} {z : Value} (T : RowTy st et sz bytes z) (w : World) (base : Nat) (v u : Value) (n m : Nat) (xs ys : List Value) (ty : TypeId) (h : OffV et sz w base v n xs) (hu : Src sz w u m ys) (hx : n + m ≤ 1000001) (hb : base ≤ w.heap.size) :
    ∃ v' w', (Builtin.append_ #[st, st] ty #[v, u]).run Tryd.prog w = .ok v' w' ∧ OffV et sz w' base v' (n + m) (xs ++ ys) ∧ RWent w v v' ∧ But (fun i => v.ownBlock = some i) w w' ∧ (v ≠ .slice none 0 0 ∨ m ≠ 0 → v' ≠ .slice none 0 0) := by
  obtain ⟨i0, hi, hz0, hz1, hz2⟩ := info_parts T.info
  have hby : (n + m) * bytes ≤ 140737488355328 := Nat.le_trans (Nat.mul_le_mul hx T.few) (by decide)
  obtain ⟨hul, hu1, ua, uc, rfl, u1, u2, u3⟩ := hu
  obtain ⟨hxl, hx1, h⟩ := h
  by_cases hy : m = 0
  · subst hy
    obtain rfl : ys = [] := List.eq_nil_of_length_eq_zero (by rw [hul, Nat.zero_mul])
    rw [List.append_nil, Nat.add_zero]
    refine ⟨v, w, ?_, ⟨hxl, hx1, h⟩, .inl rfl, But.refl _ _, fun e => e.elim id fun h => absurd rfl h⟩
    have hl : ∀ (x : Addr), (loadCells x 0).run Tryd.prog w = .ok #[] w := fun x => by simpa using run_loadCells_list (P := Tryd.prog) w x [] (by simp)
    rcases h with ⟨rfl, _⟩ | ⟨g, off, cap, cur, rfl, h1, _⟩
    · cases ua <;> simp [Builtin.append_, run_underlying T.und, sizeOf, typeInfo, hi, Builtin.lenOf, Builtin.firstCells, hl]
    · cases ua <;> simp [Builtin.append_, run_underlying T.und, sizeOf, typeInfo, hi, Builtin.lenOf, Builtin.firstCells, hl, h1, storeCells]
  · obtain ⟨ug, uo, rfl, ul, uat⟩ := u3.resolve_left hy
    have hnews : ∀ j x, ys[j]? = some x → w.cell? ((⟨ug, uo, none⟩ : Addr).add j) = some x := fun j x hj => by
      rw [Go.WideShapes.add_plain]
      exact uat j x hj
    have hboth : ∀ x ∈ xs ++ ys, x.oneCell' = true := fun x hx => (List.mem_append.1 hx).elim (hx1 x) (hu1 x)
    rcases h with ⟨rfl, rfl⟩ | ⟨g, off, cap, cur, rfl, h1, h2, h3, hg, h5, h6⟩
    · obtain rfl : xs = [] := List.eq_nil_of_length_eq_zero (by rw [hxl, Nat.zero_mul])
      obtain ⟨v', w', hrun, r1, r2, r3⟩ := run_append_own (P := Tryd.prog) w w.heap.size st ty et i0 z sz bytes T.und hi hz0 hz1 hz2 T.zs T.pos (.slice none 0 0) 0 [] (World.ownsRow_nil _ _ _ _) ⟨ug, uo, none⟩ m uc ys hul hnews hu1 (by unfold maxLen; omega) hby (Nat.le_refl _)
      have o : OffV et sz w' w.heap.size v' (0 + m) ([] ++ ys) := own_offv r1 hboth
      refine ⟨v', w', hrun, o.mono hb, .inr fun i hi => (o.blk hi).1, ⟨r2.os, r2.tape, r2.output, r2.size, fun i hi hn => r2.block i hi (by simp [Value.ownBlock])⟩, fun _ e => ?_⟩
      exact hy (r3.1 e).2
    · have holds : ∀ j x, xs[j]? = some x → w.cell? ((⟨g, off, none⟩ : Addr).add j) = some x := fun j x hj => by
        rw [Go.WideShapes.add_plain]
        simp [World.cell?, hg, h6 j x hj]
      by_cases hr : n + m ≤ cap
      · have hmul : n * sz + m * sz ≤ cap * sz := by rw [← Nat.add_mul]; exact Nat.mul_le_mul_right _ hr
        have hsome : ∀ j, j < ys.length → (w.cell? ⟨g, off + n * i0.size + j, none⟩).isSome = true := fun j hj => by
          rw [hul] at hj
          simp only [World.cell?, hg, hz1]
          simp only [Option.isSome_none, Bool.false_eq_true, if_false]
          rw [Array.getElem?_eq_getElem (by omega)]; rfl
        have hrun := run_append_room_cells (P := Tryd.prog) w st ty et i0 T.und hi g off n cap ⟨ug, uo, none⟩ m uc ys (by rw [hz1]; exact hul) hnews hu1 hr hsome (fun j _ => by simp [World.frozen?, hg])
        obtain ⟨cur', g1, g2, g3⟩ := heap_setCells0 g et (0, 0) ys (off + n * i0.size) w cur hg
        refine ⟨_, _, hrun, ⟨by rw [List.length_append, hxl, hul, Nat.add_mul], hboth, .inr ⟨g, off, cap, cur', rfl, hr, h2, h3, g1, by omega, fun i x hx => ?_⟩⟩, .inl rfl, ⟨g3.os, g3.tape, g3.output, g3.size, fun i hi hn => g3.block i hi fun e => hn (by rw [e]; rfl)⟩, fun _ e => by cases e⟩
        have hc : ∀ j, (w.setCells g (off + n * i0.size) ys).cell? ⟨g, j, none⟩ = cur'[j]? := fun j => by simp [World.cell?, g1]
        rw [← hc]
        by_cases hj : i < xs.length
        · rw [World.cell?_setCells_out g _ _ _ _ (fun _ _ => Or.inl (by simp only; rw [hz1]; omega))]
          rw [List.getElem?_append_left hj] at hx
          simp [World.cell?, hg, h6 i x hx]
        · rw [List.getElem?_append_right (by omega)] at hx
          have ht : i - xs.length < ys.length := (List.getElem?_eq_some_iff.1 hx).1
          have := World.cell?_setCells_in g ys (off + n * i0.size) w hsome (i - xs.length) ht
          rw [hz1, show off + n * sz + (i - xs.length) = off + i by omega] at this
          rw [hz1, this, ← (List.getElem?_eq_some_iff.1 hx).2]
      · obtain ⟨v', w', hrun, r1, r2⟩ := run_append_arg_grows (P := Tryd.prog) w st ty et i0 z sz bytes T.und hi hz0 hz1 hz2 T.zs T.pos ⟨g, off, none⟩ n cap xs hxl holds ⟨ug, uo, none⟩ m uc ys hul hnews (by omega) (by unfold maxLen; omega) hby
        have o : OffV et sz w' w.heap.size v' (n + m) (xs ++ ys) := own_offv r1 hboth
        refine ⟨v', w', hrun, o.mono hb, .inr fun i hi => (o.blk hi).1, ⟨r2.os, r2.tape, r2.output, r2.size, fun i hi hn => r2.block i hi (by simp)⟩, fun _ e => ?_⟩
        subst e
        obtain ⟨a, c, e⟩ := o.form
        simp only [Value.slice.injEq] at e
        omega

/-- an append, in the walk -/
theorem wp_rapp {st et : TypeId} {sz bytes : Nat} {z : Value} (T : RowTy st et sz bytes z) {w : World} {ops : Array Oper} {rest : List Oper} {o : Oper} {a : Act} {Q : Exit → Act → World → Prop} {base : Nat} {v u : Value} {n m : Nat} {xs ys : List Value}
    (h : OffV et sz w base v n xs) (hu : Src sz w u m ys) (hx : n + m ≤ 1000001) (hb : base ≤ w.heap.size) (hgd : o.guard = none) (s x : Operand)
    (ho : o.op = .call { callee := .builtin .append, args := #[s, x], argTypes := #[st, st] }) (hs : a.eval s = v) (hxe : a.eval x = u)
    (hK : ∀ v' w', OffV et sz w' base v' (n + m) (xs ++ ys) → RWent w v v' → But (fun i => v.ownBlock = some i) w w' → (v ≠ .slice none 0 0 ∨ m ≠ 0 → v' ≠ .slice none 0 0) → wpList Tryd.prog ops Q rest (a.put o.dst v') w') :
    wpList Tryd.prog ops Q (o :: rest) a w := by
  obtain ⟨v', w', hrun, h1, h2, h3, h4⟩ := rapp_run T w base v u n m xs ys o.type h hu hx hb
  refine wpList_plain hgd fun _ hK' => ?_
  unfold Oper.wp execOp
  simp only [ho, resolve, invoke, builtin, Sem.run_bind, Sem.run_pure, Result.andThen_ok, List.map_toArray, List.map_cons, List.map_nil, hs, hxe, hrun]
  exact hK' _ _ (hK v' w' h1 h2 h3 h4)
/-- an append, as a step of a region -/
theorem step_rapp {st et : TypeId} {sz bytes : Nat} {z : Value} (T : RowTy st et sz bytes z) {w : World} {ops : Array Oper} {o : Oper} {a : Act} {K : Act → World → Prop} {Q : Exit → Act → World → Prop} {E : Prop} {base : Nat} {v u : Value} {n m : Nat} {xs ys : List Value}
    (h : OffV et sz w base v n xs) (hu : Src sz w u m ys) (hx : n + m ≤ 1000001) (hb : base ≤ w.heap.size) (hgd : o.guard = none) (s x : Operand)
    (ho : o.op = .call { callee := .builtin .append, args := #[s, x], argTypes := #[st, st] }) (hs : a.eval s = v) (hxe : a.eval x = u)
    (hK : ∀ v' w', OffV et sz w' base v' (n + m) (xs ++ ys) → RWent w v v' → But (fun i => v.ownBlock = some i) w w' → (v ≠ .slice none 0 0 ∨ m ≠ 0 → v' ≠ .slice none 0 0) → K (a.put o.dst v') w') :
    if Region.wanted o (yielded ops a.tmps) = true then Oper.wp Tryd.prog o a w K Q else E := by
  rw [if_pos (by simp [Region.wanted, hgd])]
  obtain ⟨v', w', hrun, h1, h2, h3, h4⟩ := rapp_run T w base v u n m xs ys o.type h hu hx hb
  unfold Oper.wp execOp
  simp only [ho, resolve, invoke, builtin, Sem.run_bind, Sem.run_pure, Result.andThen_ok, List.map_toArray, List.map_cons, List.map_nil, hs, hxe, hrun]
  exact hK v' w' h1 h2 h3 h4
end Go.Proofs.YtenhncohhikllaaDoor
