/-
  A trie in memory: nodes, their maps, and what a call keeps.
-/
import Derived.Test.YtalebnhkidhglaaGreatTstrs
import Derived.Test.YtalebnhkidhglaaGreatTmath2
import Derived.Maps.RangeWalk
import Derived.Maps.Ext
import Derived.Maps.OwnOps
namespace Go.Proofs.YtalebnhkidhglaaGreat
open Go.ChangeShapes Go.WideShapes Go.ChangeAt Go.RowKit Go.Maps

/-- nothing that was there has turned, but what S tells -/
structure But (S : Nat → Prop) (w w' : World) : Prop where
  os : w'.os = w.os
  tape : w'.tape = w.tape
  output : w'.output = w.output
  size : w.heap.size ≤ w'.heap.size
  block : ∀ i, i < w.heap.size → ¬ S i → w'.heap[i]? = w.heap[i]?

theorem But.refl (S : Nat → Prop) (w : World) : But S w w := ⟨rfl, rfl, rfl, Nat.le_refl _, fun _ _ _ => rfl⟩
theorem But.trans {S S' : Nat → Prop} {w w' w'' : World} (h : But S w w') (k : But S' w' w'') (hs : ∀ i, i < w.heap.size → S' i → S i) : But S w w'' :=
  ⟨k.os.trans h.os, k.tape.trans h.tape, k.output.trans h.output, Nat.le_trans h.size k.size, fun i hi hn => (k.block i (Nat.lt_of_lt_of_le hi h.size) (fun e => hn (hs i hi e))).trans (h.block i hi hn)⟩
theorem But.mono {S S' : Nat → Prop} {w w' : World} (h : But S w w') (hs : ∀ i, i < w.heap.size → S i → S' i) : But S' w w' := ⟨h.os, h.tape, h.output, h.size, fun i hi hn => h.block i hi (fun e => hn (hs i hi e))⟩
theorem Kept.but {S : Nat → Prop} {w w' : World} (h : Kept w w') : But S w w' := ⟨h.os, h.tape, h.output, h.size, fun i hi _ => Below.block h i hi⟩
theorem But.kept {S : Nat → Prop} {w w' : World} (h : But S w w') (hs : ∀ i, i < w.heap.size → ¬ S i) : Kept w w' := ⟨h.os, h.tape, h.output, h.size, fun i hi => h.block i hi (hs i hi)⟩
theorem But.after {S : Nat → Prop} {a w w' : World} (h : Kept a w) (k : But S w w') (hs : ∀ i, i < a.heap.size → ¬ S i) : Kept a w' :=
  ⟨k.os.trans h.os, k.tape.trans h.tape, k.output.trans h.output, Nat.le_trans h.size k.size, fun i hi => (k.block i (Nat.lt_of_lt_of_le hi h.size) (hs i hi)).trans (Below.block h i hi)⟩
theorem but_grown {w w' : World} {b : Nat} (h : w.grownBy w' (some b)) : But (fun i => i = b) w w' := ⟨h.os, h.tape, h.output, h.size, fun i hi hn => h.block i hi (fun e => hn (by cases e; rfl))⟩
theorem but_row {w w' : World} {row : Option Nat} (h : w.grownBy w' row) : But (fun i => row = some i) w w' := ⟨h.os, h.tape, h.output, h.size, fun i hi hn => h.block i hi (fun e => hn e.symm)⟩
theorem But.cell {S : Nat → Prop} {w w' : World} (h : But S w w') {p : Addr} (hp : p.block < w.heap.size) (hs : ¬ S p.block) : w'.cell? p = w.cell? p := World.cell?_of_block (h.block p.block hp hs)
theorem heap_lt {w : World} {i : Nat} {o : Obj} (h : w.heap[i]? = some o) : i < w.heap.size := (Array.getElem?_eq_some_iff.1 h).1
theorem But.at {S : Nat → Prop} {w w' : World} (h : But S w w') {i : Nat} {o : Obj} (hi : w.heap[i]? = some o) (hs : ¬ S i) : w'.heap[i]? = some o := (h.block i (heap_lt hi) hs).trans hi
theorem owns_but {S : Nat → Prop} {w w' : World} {P : Program} {k : TypeId} {R : Value → Option (DataW Unit × List MemPlace)} {b n : Nat} {D : DataW Unit} (h : w.ownsMap P k R b n D) (g : But S w w') (hs : ¬ S b) : w'.ownsMap P k R b n D := by
  obtain ⟨es, clock, hb, r⟩ := h
  exact ⟨es, clock, g.at hb hs, r⟩
theorem ranges_but {S : Nat → Prop} {w w' : World} {P : Program} {k : TypeId} {R : Value → Option (DataW Unit × List MemPlace)} {b r n : Nat} {D : DataW Unit} {left : Lit → Bool} {cnt : Nat}
    (h : w.ranges P k R b r n D left cnt) (g : But S w w') (hb : ¬ S b) (hr : ¬ S r) : w'.ranges P k R b r n D left cnt := by
  obtain ⟨es, clock, since, seen, c0, h1, h2, h3, h4, h5, h6⟩ := h
  exact ⟨es, clock, since, seen, c0, g.at h1 hb, h2, h3, h4, g.at h5 hr, h6⟩
theorem row_but {S : Nat → Prop} {w w' : World} {base : Nat} {e : TypeId} {size : Nat} {v : Value} {n : Nat} {xs : List Value} (h : w.ownsRow base e size v n xs) (g : But S w w') (hs : ∀ i, v.ownBlock = some i → ¬ S i) : w'.ownsRow base e size v n xs := by
  refine ⟨h.1, ?_⟩
  rcases h.2 with hn | ⟨b, cap, cur, rfl, hb, hg, rest⟩
  · exact .inl hn
  · exact .inr ⟨b, cap, cur, rfl, hb, g.at hg (hs b rfl), rest⟩

/-! ### children -/
/-- a pointer to a node, as a map's element -/
def kidElem (v : Value) : Option (DataW Unit × List MemPlace) :=
  match v with
  | .pointer none => some (.nil, [])
  | .pointer (some ⟨b, 0, none⟩) => some (.lit (.int .i64 b), [])
  | _ => none
theorem kidElem_some (b : Nat) : kidElem (.pointer (some ⟨b, 0, none⟩)) = some (.lit (.int .i64 b), []) := rfl
theorem kidElem_inv {v : Value} {y : DataW Unit × List MemPlace} (h : kidElem v = some y) : (v = .pointer none ∧ y = (.nil, [])) ∨ ∃ b : Nat, v = .pointer (some ⟨b, 0, none⟩) ∧ y = (.lit (.int .i64 b), []) := by
  unfold kidElem at h
  split at h
  · cases h; exact .inl ⟨rfl, rfl⟩
  · cases h; exact .inr ⟨_, rfl, rfl⟩
  · cases h
theorem lawS : Keyed Tryz.prog 9 := string_keyed Tryz.underlying9
theorem lawI : Keyed Tryz.prog 3 := int_keyed Tryz.underlying3
theorem zeroKid (w : World) : (zeroValue 48).run Tryz.prog w = .ok (.pointer none) w := by kernel_rfl
theorem zeroInt (w : World) : (zeroValue 3).run Tryz.prog w = .ok (.int .i64 0) w := by kernel_rfl

/-- a function turned at one place -/
def upd {α β : Type} [DecidableEq α] (f : α → β) (a : α) (b : β) : α → β := fun x => if x = a then b else f x
theorem upd_same {α β : Type} [DecidableEq α] (f : α → β) (a : α) (b : β) : upd f a b a = b := if_pos rfl
theorem upd_other {α β : Type} [DecidableEq α] (f : α → β) {a x : α} (b : β) (h : x ≠ a) : upd f a b x = f x := if_neg h

/-- a map of children -/
def KidMap (w : World) (n c : Nat) (kid : List UInt8 → Option Nat) : Prop :=
  ∃ D : DataW Unit, w.ownsMap Tryz.prog 9 kidElem c n D ∧ (∀ x, Maps.has D (.string x) = (kid x).isSome) ∧ ∀ x b, kid x = some b → ∀ z, D.atKey (.string x) z = .lit (.int .i64 b)
theorem KidMap.but {S : Nat → Prop} {w w' : World} {n c : Nat} {kid : List UInt8 → Option Nat} (h : KidMap w n c kid) (g : But S w w') (hs : ¬ S c) : KidMap w' n c kid := by
  obtain ⟨D, h1, h2⟩ := h
  exact ⟨D, owns_but h1 g hs, h2⟩
theorem KidMap.mono {w : World} {n n' c : Nat} {kid : List UInt8 → Option Nat} (h : KidMap w n c kid) (hn : n ≤ n') : KidMap w n' c kid := by
  obtain ⟨D, h1, h2⟩ := h
  exact ⟨D, h1.mono hn, h2⟩
theorem KidMap.lt {w : World} {n c : Nat} {kid : List UInt8 → Option Nat} (h : KidMap w n c kid) : c < w.heap.size := let ⟨_, h1, _⟩ := h; h1.lt
theorem KidMap.obj {w : World} {n c : Nat} {kid : List UInt8 → Option Nat} (h : KidMap w n c kid) : ∃ es k, w.heap[c]? = some (.map es k) := let ⟨_, ⟨es, k, h1, _⟩, _⟩ := h; ⟨es, k, h1⟩
theorem KidMap.made (w : World) : KidMap (w.alloc (.map #[] 0)) 0 w.heap.size (fun _ => none) := ⟨_, World.ownsMap_made w _ _ _, fun _ => rfl, fun x b h => by cases h⟩
theorem KidMap.congr {w : World} {n c : Nat} {kid kid' : List UInt8 → Option Nat} (h : KidMap w n c kid) (e : ∀ x, kid' x = kid x) : KidMap w n c kid' := by
  have : kid' = kid := funext e
  rw [this]; exact h
theorem KidMap.at_some {D : DataW Unit} {kid : List UInt8 → Option Nat} (h2 : ∀ x, Maps.has D (.string x) = (kid x).isSome) (h3 : ∀ x b, kid x = some b → ∀ z, D.atKey (.string x) z = .lit (.int .i64 b)) {v : Value} {ps : List MemPlace} {x : List UInt8}
    (hv : kidElem v = some (D.atKey (.string x) .nil, ps)) : v = .pointer ((kid x).map fun b => ⟨b, 0, none⟩) := by
  cases hk : kid x with
  | none =>
    have : Maps.has D (.string x) = false := by rw [h2, hk]; rfl
    rw [atKey_of_not_has this] at hv
    rcases kidElem_inv hv with ⟨rfl, _⟩ | ⟨b', _, e⟩
    · rfl
    · cases e
  | some b =>
    rw [h3 x b hk] at hv
    rcases kidElem_inv hv with ⟨_, e⟩ | ⟨b', rfl, e⟩
    · cases e
    · have : (b : Int) = b' := by simpa using congrArg Prod.fst e
      simp [Int.ofNat_inj.1 this]
theorem KidMap.look {w : World} {n c : Nat} {kid : List UInt8 → Option Nat} (h : KidMap w n c kid) {p : ByteArray} (hp : p.size ≤ maxLen) :
    (Instr.lookup 60 (.map (some c)) (.string p) true).run Tryz.prog w = .ok (.tuple #[.pointer ((kid p.data.toList).map fun b => ⟨b, 0, none⟩), .bool (kid p.data.toList).isSome]) w := by
  obtain ⟨D, h1, h2, h3⟩ := h
  obtain ⟨v, ps, hrun, hv⟩ := h1.look_ok lawS Tryz.underlying60 (zeroKid w) (zd := .nil) (zp := []) rfl (WideMaps.keyOf_string_mk Tryz.underlying9 hp)
  rw [hrun, KidMap.at_some h2 h3 hv, h2]
theorem KidMap.look1 {w : World} {n c : Nat} {kid : List UInt8 → Option Nat} (h : KidMap w n c kid) {p : ByteArray} (hp : p.size ≤ maxLen) :
    (Instr.lookup 60 (.map (some c)) (.string p) false).run Tryz.prog w = .ok (.pointer ((kid p.data.toList).map fun b => ⟨b, 0, none⟩)) w := by
  obtain ⟨D, h1, h2, h3⟩ := h
  obtain ⟨v, ps, hrun, hv⟩ := h1.lookup lawS Tryz.underlying60 (zeroKid w) (zd := .nil) (zp := []) rfl (WideMaps.keyOf_string_mk Tryz.underlying9 hp)
  rw [hrun, KidMap.at_some h2 h3 hv]
theorem size_zero {D : DataW Unit} (hD : IsMap D) (h : Maps.size D = 0) (k : Lit) : Maps.has D k = false := by
  obtain ⟨es, rfl⟩ := hD
  have : es = [] := List.eq_nil_of_length_eq_zero h
  rw [this]; rfl
theorem size_some {P : Program} {k : TypeId} {R : Value → Option (DataW Unit × List MemPlace)} {w : World} {b n : Nat} {D : DataW Unit} (h : w.ownsMap P k R b n D) (K : Keyed P k) (hs : Maps.size D ≠ 0) : ∃ kl, Maps.has D kl = true ∧ ∃ v, keyOf P k v = some kl := by
  obtain ⟨es, clock, hb, F, hn, rfl⟩ := h
  have hl : es.size ≠ 0 := by
    intro e
    apply hs
    simp [Maps.size, length_sorted, e]
  have hx : es[0] ∈ es.toList := by simp
  obtain ⟨y, hy⟩ := F.reads _ hx
  obtain ⟨kl, hkl, hyk⟩ : ∃ kl, keyOf P k es[0].key = some kl ∧ y.1 = kl := by
    unfold WideElems.rd at hy
    cases hk : keyOf P k es[0].key with
    | none => simp [hk] at hy
    | some kl =>
      simp [hk] at hy
      obtain ⟨a, b, _, rfl⟩ := hy
      exact ⟨kl, rfl, rfl⟩
  refine ⟨kl, ?_, _, hkl⟩
  have hm : y ∈ (es.toList.map (WideElems.rg P k R)).foldr DataW.insert [] := by
    rw [mem_sorted, List.mem_map]
    exact ⟨_, hx, by simp [WideElems.rg, hy]⟩
  rw [Maps.has_eq, List.any_eq_true]
  exact ⟨y, hm, by rw [hyk]; exact WideAt.sameKey_self (K.key hkl)⟩
theorem keyStr_inv {key : Value} {kl : Lit} (h : keyOf Tryz.prog 9 key = some kl) : ∃ s : ByteArray, key = .string s ∧ kl = .string s.data.toList ∧ s.size ≤ maxLen := by
  cases key <;> simp [keyOf, Tryz.underlying9, mapKey] at h
  rename_i s
  obtain ⟨h1, rfl⟩ := h
  exact ⟨s, rfl, rfl, h1⟩
theorem KidMap.len {w : World} {n c : Nat} {kid : List UInt8 → Option Nat} (h : KidMap w n c kid) (ty : TypeId) :
    ∃ m : Nat, m ≤ n ∧ (Builtin.len_ #[60] ty #[.map (some c)]).run Tryz.prog w = .ok (.int .i64 m) w ∧ (m = 0 ↔ ∀ x, kid x = none) := by
  obtain ⟨D, h1, h2, h3⟩ := h
  refine ⟨Maps.size D, h1.size_le, h1.len Tryz.underlying60 ty, fun e x => ?_, fun e => ?_⟩
  · have := size_zero h1.isMap e (.string x)
    rw [h2] at this
    cases hk : kid x with
    | none => rfl
    | some b => rw [hk] at this; cases this
  · by_cases h0 : Maps.size D = 0
    · exact h0
    · obtain ⟨kl, hh, v, hv⟩ := size_some h1 lawS h0
      obtain ⟨s, _, rfl, _⟩ := keyStr_inv hv
      rw [h2, e] at hh
      cases hh
theorem KidMap.put {w : World} {n c : Nat} {kid : List UInt8 → Option Nat} (h : KidMap w n c kid) (hn : n < maxLen) {p : ByteArray} (hp : p.size ≤ maxLen) (b : Nat) :
    ∃ w', (Instr.mapUpdate 60 (.map (some c)) (.string p) (.pointer (some ⟨b, 0, none⟩))).run Tryz.prog w = .ok () w' ∧ KidMap w' (n + 1) c (upd kid p.data.toList (some b)) ∧ w.grownBy w' (some c) := by
  obtain ⟨D, h1, h2, h3⟩ := h
  obtain ⟨w', hrun, h4, h5⟩ := h1.update lawS Tryz.underlying60 hn (WideMaps.keyOf_string_mk Tryz.underlying9 hp) (kidElem_some b)
  refine ⟨w', hrun, ⟨_, h4, fun x => ?_, fun x b' hx z => ?_⟩, h5⟩
  · by_cases e : x = p.data.toList
    · subst e; rw [upd_same]; exact has_put_same h1.isMap (by trivial) _
    · rw [upd_other _ _ e, has_put_other (fun k => e (by cases k; rfl)), h2]
  · by_cases e : x = p.data.toList
    · subst e; rw [upd_same] at hx; cases hx; exact atKey_put_same h1.isMap (by trivial) _ _
    · rw [upd_other _ _ e] at hx
      rw [atKey_put_other (fun k => e (by cases k; rfl))]
      exact h3 x b' hx z
theorem KidMap.del {w : World} {n c : Nat} {kid : List UInt8 → Option Nat} (h : KidMap w n c kid) {p : ByteArray} (hp : p.size ≤ maxLen) (ty : TypeId) :
    ∃ w', (Builtin.delete_ #[60, 9] ty #[.map (some c), .string p]).run Tryz.prog w = .ok (.tuple #[]) w' ∧ KidMap w' n c (upd kid p.data.toList none) ∧ w.grownBy w' (some c) := by
  obtain ⟨D, h1, h2, h3⟩ := h
  obtain ⟨w', hrun, h4, h5⟩ := h1.drop lawS Tryz.underlying60 (WideMaps.keyOf_string_mk Tryz.underlying9 hp) ty
  refine ⟨w', hrun, ⟨_, h4, fun x => ?_, fun x b' hx z => ?_⟩, h5.grown⟩
  · by_cases e : x = p.data.toList
    · subst e; rw [upd_same]; exact has_del_same
    · rw [upd_other _ _ e, has_del_other (fun k => e (by cases k; rfl)), h2]
  · by_cases e : x = p.data.toList
    · subst e; rw [upd_same] at hx; cases hx
    · rw [upd_other _ _ e] at hx
      rw [atKey_del_other (fun k => e (by cases k; rfl))]
      exact h3 x b' hx z

/-! ### who asks -/
def AskMap (w : World) (n a : Nat) (ask : Int → Nat) : Prop :=
  ∃ D : DataW Unit, w.ownsMap Tryz.prog 3 (plainElem Tryz.prog 3) a n D ∧ (∀ i, Maps.has D (.int .i64 i) = decide (0 < ask i)) ∧ ∀ i, D.atKey (.int .i64 i) (.lit (.int .i64 0)) = .lit (.int .i64 (ask i))
theorem AskMap.but {S : Nat → Prop} {w w' : World} {n c : Nat} {ask : Int → Nat} (h : AskMap w n c ask) (g : But S w w') (hs : ¬ S c) : AskMap w' n c ask := by
  obtain ⟨D, h1, h2⟩ := h
  exact ⟨D, owns_but h1 g hs, h2⟩
theorem AskMap.mono {w : World} {n n' c : Nat} {ask : Int → Nat} (h : AskMap w n c ask) (hn : n ≤ n') : AskMap w n' c ask := by
  obtain ⟨D, h1, h2⟩ := h
  exact ⟨D, h1.mono hn, h2⟩
theorem AskMap.lt {w : World} {n c : Nat} {ask : Int → Nat} (h : AskMap w n c ask) : c < w.heap.size := let ⟨_, h1, _⟩ := h; h1.lt
theorem AskMap.obj {w : World} {n c : Nat} {ask : Int → Nat} (h : AskMap w n c ask) : ∃ es k, w.heap[c]? = some (.map es k) := let ⟨_, ⟨es, k, h1, _⟩, _⟩ := h; ⟨es, k, h1⟩
theorem AskMap.made (w : World) : AskMap (w.alloc (.map #[] 0)) 0 w.heap.size (fun _ => 0) := ⟨_, World.ownsMap_made w _ _ _, fun _ => rfl, fun _ => rfl⟩
theorem AskMap.congr {w : World} {n c : Nat} {ask ask' : Int → Nat} (h : AskMap w n c ask) (e : ∀ x, ask' x = ask x) : AskMap w n c ask' := by
  have : ask' = ask := funext e
  rw [this]; exact h
theorem AskMap.look {w : World} {n c : Nat} {ask : Int → Nat} (h : AskMap w n c ask) {i : Int} (hi : (Lit.int .i64 i).wf = true) :
    (Instr.lookup 61 (.map (some c)) (.int .i64 i) false).run Tryz.prog w = .ok (.int .i64 (ask i)) w := by
  obtain ⟨D, h1, h2, h3⟩ := h
  obtain ⟨v, hrun, hv, _⟩ := h1.lookup_int lawI Tryz.underlying61 Tryz.underlying3 (zeroInt w) (keyOf_int_mk Tryz.underlying3 hi)
  rw [h3] at hv
  have : v = ask i := by simpa using hv.symm
  rw [hrun, this]
theorem AskMap.look_ok {w : World} {n c : Nat} {ask : Int → Nat} (h : AskMap w n c ask) {i : Int} (hi : (Lit.int .i64 i).wf = true) :
    (Instr.lookup 61 (.map (some c)) (.int .i64 i) true).run Tryz.prog w = .ok (.tuple #[.int .i64 (ask i), .bool (decide (0 < ask i))]) w := by
  obtain ⟨D, h1, h2, h3⟩ := h
  obtain ⟨v, ps, hrun, hv⟩ := h1.look_ok lawI Tryz.underlying61 (zeroInt w) (zd := .lit (.int .i64 0)) (zp := []) (plainElem_int Tryz.underlying3 (by decide)) (keyOf_int_mk Tryz.underlying3 hi)
  rw [h3] at hv
  obtain ⟨x, rfl, hx, _⟩ := plainElem_int_inv Tryz.underlying3 hv
  have : x = ask i := by simpa using (congrArg Prod.fst hx).symm
  rw [hrun, this, h2]
theorem wf_nat {c : Nat} (h : c ≤ 4611686018427387904) : (Lit.int .i64 (c : Int)).wf = true := WalkArith.wf_i64 (by omega)
theorem AskMap.put {w : World} {n a : Nat} {ask : Int → Nat} (h : AskMap w n a ask) (hn : n < maxLen) {i : Int} (hi : (Lit.int .i64 i).wf = true) (c : Nat) (hc : 0 < c) (hm : c ≤ 4611686018427387904) :
    ∃ w', (Instr.mapUpdate 61 (.map (some a)) (.int .i64 i) (.int .i64 c)).run Tryz.prog w = .ok () w' ∧ AskMap w' (n + 1) a (upd ask i c) ∧ w.grownBy w' (some a) := by
  obtain ⟨D, h1, h2, h3⟩ := h
  obtain ⟨w', hrun, h4, h5⟩ := h1.update lawI Tryz.underlying61 hn (keyOf_int_mk Tryz.underlying3 hi) (plainElem_int Tryz.underlying3 (wf_nat hm))
  refine ⟨w', hrun, ⟨_, h4, fun x => ?_, fun x => ?_⟩, h5⟩
  · by_cases e : x = i
    · subst e; rw [upd_same, has_put_same h1.isMap (by trivial)]; simp [hc]
    · rw [upd_other _ _ e, has_put_other (fun k => e (by cases k; rfl)), h2]
  · by_cases e : x = i
    · subst e; rw [upd_same]; exact atKey_put_same h1.isMap (by trivial) _ _
    · rw [upd_other _ _ e, atKey_put_other (fun k => e (by cases k; rfl)), h3]
/-- once less, and gone where nothing is left -/
theorem AskMap.less {w : World} {n a : Nat} {ask : Int → Nat} (h : AskMap w n a ask) (hn : n < maxLen) {i : Int} (hi : (Lit.int .i64 i).wf = true) (c : Nat) (hm : c ≤ 4611686018427387904) (ty : TypeId) :
    ∃ w', (Instr.mapUpdate 61 (.map (some a)) (.int .i64 i) (.int .i64 c)).run Tryz.prog w = .ok () w' ∧ w.grownBy w' (some a) ∧
      (Instr.lookup 61 (.map (some a)) (.int .i64 i) false).run Tryz.prog w' = .ok (.int .i64 c) w' ∧
      (0 < c → AskMap w' (n + 1) a (upd ask i c)) ∧
      (c = 0 → ∃ w'', (Builtin.delete_ #[61, 3] ty #[.map (some a), .int .i64 i]).run Tryz.prog w' = .ok (.tuple #[]) w'' ∧ AskMap w'' (n + 1) a (upd ask i c) ∧ w'.grownBy w'' (some a)) := by
  obtain ⟨D, h1, h2, h3⟩ := h
  obtain ⟨w', hrun, h4, h5⟩ := h1.update lawI Tryz.underlying61 hn (keyOf_int_mk Tryz.underlying3 hi) (plainElem_int Tryz.underlying3 (wf_nat hm))
  have h6 : ∀ x, (D.put (.int .i64 i) (.lit (.int .i64 c))).atKey (.int .i64 x) (.lit (.int .i64 0)) = .lit (.int .i64 ((upd ask i c x : Nat) : Int)) := fun x => by
    by_cases e : x = i
    · subst e; rw [upd_same]; exact atKey_put_same h1.isMap (by trivial) _ _
    · rw [upd_other _ _ e, atKey_put_other (fun k => e (by cases k; rfl)), h3]
  refine ⟨w', hrun, h5, ?_, fun hc => ⟨_, h4, fun x => ?_, h6⟩, fun hc => ?_⟩
  · obtain ⟨v, hrun, hv, _⟩ := h4.lookup_int lawI Tryz.underlying61 Tryz.underlying3 (zeroInt _) (keyOf_int_mk Tryz.underlying3 hi)
    rw [h6, upd_same] at hv
    have : v = c := by simpa using hv.symm
    rw [hrun, this]
  · by_cases e : x = i
    · subst e; rw [upd_same, has_put_same h1.isMap (by trivial)]; simp [hc]
    · rw [upd_other _ _ e, has_put_other (fun k => e (by cases k; rfl)), h2]
  · obtain ⟨w'', hrun, h7, h8⟩ := h4.drop lawI Tryz.underlying61 (keyOf_int_mk Tryz.underlying3 hi) ty
    refine ⟨w'', hrun, ⟨_, h7, fun x => ?_, fun x => ?_⟩, h8.grown⟩
    · by_cases e : x = i
      · subst e; rw [upd_same, has_del_same, hc]; rfl
      · rw [upd_other _ _ e, has_del_other (fun k => e (by cases k; rfl)), has_put_other (fun k => e (by cases k; rfl)), h2]
    · by_cases e : x = i
      · subst e; rw [upd_same, atKey_del_same, hc]; rfl
      · rw [atKey_del_other (fun k => e (by cases k; rfl)), h6]
theorem AskMap.del {w : World} {n a : Nat} {ask : Int → Nat} (h : AskMap w n a ask) {i : Int} (hi : (Lit.int .i64 i).wf = true) (ty : TypeId) :
    ∃ w', (Builtin.delete_ #[61, 3] ty #[.map (some a), .int .i64 i]).run Tryz.prog w = .ok (.tuple #[]) w' ∧ AskMap w' n a (upd ask i 0) ∧ w.grownBy w' (some a) := by
  obtain ⟨D, h1, h2, h3⟩ := h
  obtain ⟨w', hrun, h4, h5⟩ := h1.drop lawI Tryz.underlying61 (keyOf_int_mk Tryz.underlying3 hi) ty
  refine ⟨w', hrun, ⟨_, h4, fun x => ?_, fun x => ?_⟩, h5.grown⟩
  · by_cases e : x = i
    · subst e; rw [upd_same]; exact has_del_same
    · rw [upd_other _ _ e, has_del_other (fun k => e (by cases k; rfl)), h2]
  · by_cases e : x = i
    · subst e; rw [upd_same, atKey_del_same]; rfl
    · rw [upd_other _ _ e, atKey_del_other (fun k => e (by cases k; rfl)), h3]
theorem AskMap.len {w : World} {n c : Nat} {ask : Int → Nat} (h : AskMap w n c ask) (ty : TypeId) :
    ∃ m : Nat, m ≤ n ∧ (Builtin.len_ #[61] ty #[.map (some c)]).run Tryz.prog w = .ok (.int .i64 m) w ∧ (m = 0 ↔ ∀ x, ask x = 0) := by
  obtain ⟨D, h1, h2, h3⟩ := h
  refine ⟨Maps.size D, h1.size_le, h1.len Tryz.underlying61 ty, fun e x => ?_, fun e => ?_⟩
  · have := size_zero h1.isMap e (.int .i64 x)
    rw [h2] at this
    simpa using this
  · by_cases h0 : Maps.size D = 0
    · exact h0
    · obtain ⟨kl, hh, v, hv⟩ := size_some h1 lawI h0
      obtain ⟨s, _, rfl, _⟩ := keyOf_int_inv Tryz.underlying3 hv
      rw [h2, e] at hh
      simp at hh

/-! ### nodes and tries -/
/-- where a node lies: itself, its children, who asks -/
structure Loc where
  b : Nat
  c : Nat
  a : Nat
abbrev Path := List (List UInt8)
structure NodeAt (w : World) (n : Nat) (l : Loc) (kid : List UInt8 → Option Nat) (ask : Int → Nat) : Prop where
  cells : w.heap[l.b]? = some (.cells #[.map (some l.c), .map (some l.a)] 63 (0, 0))
  kids : KidMap w n l.c kid
  asks : AskMap w n l.a ask
theorem NodeAt.but {S : Nat → Prop} {w w' : World} {n : Nat} {l : Loc} {kid : List UInt8 → Option Nat} {ask : Int → Nat} (h : NodeAt w n l kid ask) (g : But S w w') (hb : ¬ S l.b) (hc : ¬ S l.c) (ha : ¬ S l.a) : NodeAt w' n l kid ask :=
  ⟨g.at h.cells hb, h.kids.but g hc, h.asks.but g ha⟩
theorem NodeAt.mono {w : World} {n n' : Nat} {l : Loc} {kid : List UInt8 → Option Nat} {ask : Int → Nat} (h : NodeAt w n l kid ask) (hn : n ≤ n') : NodeAt w n' l kid ask := ⟨h.cells, h.kids.mono hn, h.asks.mono hn⟩
theorem NodeAt.c0 {w : World} {n : Nat} {l : Loc} {kid : List UInt8 → Option Nat} {ask : Int → Nat} (h : NodeAt w n l kid ask) : w.cell? ⟨l.b, 0, none⟩ = some (.map (some l.c)) := by simp [World.cell?, h.cells]
theorem NodeAt.c1 {w : World} {n : Nat} {l : Loc} {kid : List UInt8 → Option Nat} {ask : Int → Nat} (h : NodeAt w n l kid ask) : w.cell? ⟨l.b, 1, none⟩ = some (.map (some l.a)) := by simp [World.cell?, h.cells]
theorem NodeAt.bc {w : World} {n : Nat} {l : Loc} {kid : List UInt8 → Option Nat} {ask : Int → Nat} (h : NodeAt w n l kid ask) {i : Nat} (hi : ∃ es k, w.heap[i]? = some (.map es k)) : l.b ≠ i := by
  rintro rfl
  obtain ⟨es, k, hi⟩ := hi
  rw [h.cells] at hi
  cases hi

structure TrieAt (w : World) (n : Nat) (N : Path → Option Loc) (A : Path → Int → Nat) : Prop where
  node : ∀ p l, N p = some l → NodeAt w n l (fun x => (N (p ++ [x])).map Loc.b) (A p)
  root : ∃ l, N [] = some l
  up : ∀ p x l, N (p ++ [x]) = some l → ∃ m, N p = some m
  good : ∀ p l, N p = some l → p.length ≤ 8 ∧ ∀ x ∈ p, x ≠ [] ∧ x.length ≤ 16 ∧ ∀ c ∈ x, c ≠ 47
  out : ∀ p, N p = none → ∀ i, A p i = 0
  few : ∀ p i, A p i ≤ n
  inj : ∀ p q l m, N p = some l → N q = some m → (l.c = m.c → p = q) ∧ (l.a = m.a → p = q) ∧ l.c ≠ m.a

/-- the maps of the nodes from q on -/
def Under (N : Path → Option Loc) (q : Path) (i : Nat) : Prop := ∃ r l, q <+: r ∧ N r = some l ∧ (i = l.c ∨ i = l.a)
/-- all that a trie is of -/
def Of (N : Path → Option Loc) (i : Nat) : Prop := ∃ r l, N r = some l ∧ (i = l.b ∨ i = l.c ∨ i = l.a)
theorem TrieAt.but {S : Nat → Prop} {w w' : World} {n : Nat} {N : Path → Option Loc} {A : Path → Int → Nat} (h : TrieAt w n N A) (g : But S w w') (hs : ∀ i, Of N i → ¬ S i) : TrieAt w' n N A :=
  ⟨fun p l hp => (h.node p l hp).but g (hs _ ⟨p, l, hp, .inl rfl⟩) (hs _ ⟨p, l, hp, .inr (.inl rfl)⟩) (hs _ ⟨p, l, hp, .inr (.inr rfl)⟩), h.root, h.up, h.good, h.out, h.few, h.inj⟩
theorem TrieAt.kept {w w' : World} {n : Nat} {N : Path → Option Loc} {A : Path → Int → Nat} (h : TrieAt w n N A) (g : Kept w w') : TrieAt w' n N A := h.but (S := fun _ => False) g.but (fun _ _ k => k)
theorem TrieAt.mono {w : World} {n n' : Nat} {N : Path → Option Loc} {A : Path → Int → Nat} (h : TrieAt w n N A) (hn : n ≤ n') : TrieAt w n' N A :=
  ⟨fun p l hp => (h.node p l hp).mono hn, h.root, h.up, h.good, h.out, fun p i => Nat.le_trans (h.few p i) hn, h.inj⟩
theorem TrieAt.lt {w : World} {n : Nat} {N : Path → Option Loc} {A : Path → Int → Nat} (h : TrieAt w n N A) {i : Nat} (hi : Of N i) : i < w.heap.size := by
  obtain ⟨r, l, hr, e⟩ := hi
  have := h.node r l hr
  rcases e with rfl | rfl | rfl
  · exact heap_lt this.cells
  · exact this.kids.lt
  · exact this.asks.lt
theorem Under.of {N : Path → Option Loc} {q : Path} {i : Nat} (h : Under N q i) : Of N i := let ⟨r, l, _, h2, h3⟩ := h; ⟨r, l, h2, .inr h3⟩
/-- cells of another kind are no part of it -/
theorem TrieAt.other {w : World} {n : Nat} {N : Path → Option Loc} {A : Path → Int → Nat} (h : TrieAt w n N A) {i : Nat} {o : Obj} (hi : w.heap[i]? = some o) (ho : (∀ es k, o ≠ .map es k) ∧ ∀ cur z, o ≠ .cells cur 63 z) : ¬ Of N i := by
  rintro ⟨r, l, hr, e⟩
  have := h.node r l hr
  rcases e with rfl | rfl | rfl
  · rw [this.cells] at hi; cases hi; exact ho.2 _ _ rfl
  · obtain ⟨es, k, hk⟩ := this.kids.obj; rw [hk] at hi; cases hi; exact ho.1 _ _ rfl
  · obtain ⟨es, k, hk⟩ := this.asks.obj; rw [hk] at hi; cases hi; exact ho.1 _ _ rfl

/-- from one trie to the next: what may have turned -/
structure Moves (N N' : Path → Option Loc) (q : Path) (w w' : World) : Prop where
  but : But (Under N q) w w'
  same : ∀ r, ¬ (q <+: r ∧ r ≠ q) → N' r = N r
  sub : ∀ r l, N' r = some l → N r = some l ∨ (w.heap.size ≤ l.b ∧ w.heap.size ≤ l.c ∧ w.heap.size ≤ l.a)
theorem Moves.refl (N : Path → Option Loc) (q : Path) (w : World) : Moves N N q w w := ⟨But.refl _ _, fun _ _ => rfl, fun _ _ h => .inl h⟩
theorem Moves.of_kept (N : Path → Option Loc) (q : Path) {w w' : World} (h : Kept w w') : Moves N N q w w' := ⟨h.but, fun _ _ => rfl, fun _ _ h => .inl h⟩
theorem Moves.under {N N' : Path → Option Loc} {q : Path} {w w' : World} (h : Moves N N' q w w') {i : Nat} {r : Path} (hi : i < w.heap.size) (k : Under N' r i) : Under N r i := by
  obtain ⟨s, l, h1, h2, h3⟩ := k
  rcases h.sub s l h2 with h4 | ⟨_, h4, h5⟩
  · exact ⟨s, l, h1, h4, h3⟩
  · rcases h3 with rfl | rfl <;> omega
theorem Moves.trans {N N' N'' : Path → Option Loc} {q : Path} {w w' w'' : World} (h : Moves N N' q w w') (k : Moves N' N'' q w' w'') : Moves N N'' q w w'' :=
  ⟨h.but.trans k.but (fun _ hi hu => h.under hi hu), fun r hr => (k.same r hr).trans (h.same r hr), fun r l hl => by
    rcases k.sub r l hl with h1 | ⟨h1, h2, h3⟩
    · exact h.sub r l h1
    · have := h.but.size
      exact .inr ⟨by omega, by omega, by omega⟩⟩
theorem Moves.up {N N' : Path → Option Loc} {q : Path} {x : List UInt8} {w w' : World} (h : Moves N N' (q ++ [x]) w w') : Moves N N' q w w' :=
  ⟨h.but.mono (fun _ _ ⟨r, l, h1, h2⟩ => ⟨r, l, (List.prefix_append q [x]).trans h1, h2⟩), fun r hr => h.same r (fun ⟨h1, h2⟩ => hr ⟨(List.prefix_append q [x]).trans h1, fun e => by
    subst e
    have := h1.length_le
    simp at this
    omega⟩), h.sub⟩
theorem Moves.of {N N' : Path → Option Loc} {q : Path} {w w' : World} (h : Moves N N' q w w') {i : Nat} (hi : i < w.heap.size) (k : Of N' i) : Of N i := by
  obtain ⟨s, l, h2, h3⟩ := k
  rcases h.sub s l h2 with h4 | ⟨h4, h5, h6⟩
  · exact ⟨s, l, h4, h3⟩
  · rcases h3 with rfl | rfl | rfl <;> omega
end Go.Proofs.YtalebnhkidhglaaGreat
