/-
  The walk of frame.kinds: its map of kinds, whatever order its parts are made in (the table of operations is written by program).
-/
import Derived.Test.YtlfmpoinjbmjoaaGreatDoorZord
import Derived.Test.YtlfmpoinjbmjoaaGreatDoorEbase
import Derived.Laws.EntriesVeiled
import Derived.MapKept
import Derived.Test.YtlfmpoinjbmjoaaGreatDoorFmath
namespace Go.Proofs.YtlfmpoinjbmjoaaGreatDoor
open Go.ChangeShapes Go.WideShapes Go.ChangeAt Go.RowKit
/-- a block set -/
def put1 (w : World) (m : Nat) (o : Obj) : World := { w with heap := w.heap.setIfInBounds m o }
theorem ret_num (tmps : Array Value) (W : World) (R : Nat) (v : Value) (n m : Int) (h : tmps[2]?.getD undef = .pointer (some ⟨R, 0, none⟩)) (hb : Blk W R #[v, .int .i64 n, .int .i64 m] 93) : (results Tryz.f63 tmps).run Tryz.prog W = .ok (.agg #[v, .int .i64 n, .int .i64 m]) W := by
  have c0 := hb.cell 0
  have c1 := hb.cell 1
  have c2 := hb.cell 2
  simp only [List.getElem?_toArray, List.getElem?_cons_zero, List.getElem?_cons_succ] at c0 c1 c2
  simp [results, Tryz.f63, go_sem, h, c0, c1, c2]
theorem seq_any (n : Int) (w : World) : Calls Tryz.prog 63 #[.int .i64 n] w fun r w' => r = .returned (.agg #[.func (.func 64) #[] #[], .int .i64 n, .int .i64 1099511627776]) ∧ Kept w w' := by
  go_enter Tryz.func63, Tryz.ntmps63
  go_wp2
  exact bodyPost_ret (ret_num _ _ w.heap.size _ _ _ rfl (Blk.made w _ _)) rfl ⟨rfl, (Kept.refl w).alloc _⟩
theorem epoch_any (b : Nat) (w : World) : Calls Tryz.prog 61 #[.pointer (some ⟨b, 0, none⟩)] w fun r w' => r = .returned (.pointer (some ⟨b, 1, none⟩)) ∧ w' = w := by
  go_enter Tryz.func61, Tryz.ntmps61
  go_wp2
  go_ret
  exact ⟨rfl, rfl⟩
theorem credit_any (b : Nat) (w : World) : Calls Tryz.prog 62 #[.pointer (some ⟨b, 0, none⟩)] w fun r w' => r = .returned (.pointer (some ⟨b, 3, none⟩)) ∧ w' = w := by
  go_enter Tryz.func62, Tryz.ntmps62
  go_wp2
  go_ret
  exact ⟨rfl, rfl⟩
theorem sequence_any (b : Nat) (w : World) : Calls Tryz.prog 64 #[.pointer (some ⟨b, 0, none⟩)] w fun r w' => r = .returned (.pointer (some ⟨b, 2, none⟩)) ∧ w' = w := by
  go_enter Tryz.func64, Tryz.ntmps64
  go_wp2
  go_ret
  exact ⟨rfl, rfl⟩
theorem findNow_no (k : Int) : ∀ (l : List MapEntry) (i : Nat), (∀ e ∈ l, ∃ j : Int, e.key = .int .i64 j ∧ j ≠ k) → Instr.findNow (.int .i64) (.int .i64 k) l i = some none
  | [], _, _ => rfl
  | e :: l, i, h => by
    obtain ⟨j, hj, hne⟩ := h e (by simp)
    have ih := findNow_no k l (i + 1) (fun x hx => h x (by simp [hx]))
    unfold Instr.findNow
    rw [hj]
    have : Instr.sameNow (.int .i64) (.int .i64 k) (.int .i64 j) = some false := by simp [Instr.sameNow]; omega
    rw [this]
    exact ih
theorem findNow_yes (k : Int) : ∀ (l : List MapEntry) (i : Nat), (∀ e ∈ l, ∃ j : Int, e.key = .int .i64 j) → (∃ e ∈ l, e.key = .int .i64 k) → ∃ i' v, Instr.findNow (.int .i64) (.int .i64 k) l i = some (some (i', v)) ∧ ∃ e ∈ l, e.key = .int .i64 k ∧ e.val = v
  | [], _, _, ⟨_, h, _⟩ => by cases h
  | e :: l, i, h, ⟨x, hx, hk⟩ => by
    obtain ⟨j, hj⟩ := h e (by simp)
    unfold Instr.findNow
    rw [hj]
    by_cases hjk : j = k
    · subst hjk
      have : Instr.sameNow (.int .i64) (.int .i64 j) (.int .i64 j) = some true := by simp [Instr.sameNow]
      rw [this]
      exact ⟨i, e.val, rfl, e, by simp, hj, rfl⟩
    · have : Instr.sameNow (.int .i64) (.int .i64 k) (.int .i64 j) = some false := by simp [Instr.sameNow]; omega
      rw [this]
      rcases List.mem_cons.1 hx with rfl | hx
      · rw [hj] at hk; cases hk; exact absurd rfl hjk
      · obtain ⟨i', v, h1, y, hy, h2⟩ := findNow_yes k l (i + 1) (fun x hx => h x (by simp [hx])) ⟨x, hx, hk⟩
        exact ⟨i', v, h1, y, by simp [hy], h2⟩
section
variable {a : Act} {dst : Option Tmp} {ty : TypeId} {pos : String} {after : Array Edge} {guard : Option (Nat × Bool)}
theorem rk_ins {m : Nat} {k : Int} {v : Value} {n1 n2 : Nat} {es : Array MapEntry} {c : Nat} (h1 : At a n1 (.map (some m))) (h2 : At a n2 v) (w : World) (hm : w.heap[m]? = some (.map es c)) (hk : ∀ e ∈ es.toList, ∃ j : Int, e.key = .int .i64 j ∧ j ≠ k) :
    (execOp a.eval ⟨dst, .insert 64 (.tmp n1) (.const (.int .i64 k)) (.tmp n2), ty, pos, after, guard⟩).run Tryz.prog w = .ok .skip (put1 w m (.map (es.push ⟨.int .i64 k, v, c⟩) (c + 1))) := by
  have e1 := h1.eval
  have e2 := h2.eval
  have e3 : a.eval (.const (.int .i64 k)) = .int .i64 k := rfl
  generalize a.eval = ρ at *
  have hg := MapKept.run_getObj_map (P := Tryz.prog) hm
  have hf := MapKept.run_findKey (P := Tryz.prog) (w := w) (kt := 3) (k := .int .i64 k) (l := es.toList) Tryz.underlying3 (findNow_no k es.toList 0 hk)
  have hc : (Instr.checkKey false 10000 3 (.int .i64 k)).run Tryz.prog w = .ok () w := by kernel_rfl
  have hs := MapKept.run_setObj_map (P := Tryz.prog) (.map (es.push ⟨.int .i64 k, v, c⟩) (c + 1)) hm
  simp [go_sem, e1, e2, e3, Instr.mapUpdate, hg, hf, hc, hs, put1]
theorem look_no {m : Nat} {k : Int} {es : Array MapEntry} {c : Nat} (w : World) (hm : w.heap[m]? = some (.map es c)) (hk : ∀ e ∈ es.toList, ∃ j : Int, e.key = .int .i64 j ∧ j ≠ k) (ok : Bool) :
    (Instr.lookup 64 (.map (some m)) (.int .i64 k) ok).run Tryz.prog w = .ok (if ok then .tuple #[.agg #[.string ⟨#[]⟩, .slice none 0 0], .bool false] else .agg #[.string ⟨#[]⟩, .slice none 0 0]) w := by
  have hg := MapKept.run_getObj_map (P := Tryz.prog) hm
  have hf := MapKept.run_findKey (P := Tryz.prog) (w := w) (kt := 3) (k := .int .i64 k) (l := es.toList) Tryz.underlying3 (findNow_no k es.toList 0 hk)
  have hz : (zeroValue 44).run Tryz.prog w = .ok (.agg #[.string ⟨#[]⟩, .slice none 0 0]) w := by kernel_rfl
  have hc : ∀ b, (Instr.checkKey b 10000 3 (.int .i64 k)).run Tryz.prog w = .ok () w := fun b => by cases b <;> kernel_rfl
  cases ok <;> simp [go_sem, Instr.lookup, hg, hf, hz, hc]
theorem look_yes {m : Nat} {k : Int} {es : Array MapEntry} {c : Nat} (w : World) (hm : w.heap[m]? = some (.map es c)) (hk : ∀ e ∈ es.toList, ∃ j : Int, e.key = .int .i64 j) (hx : ∃ e ∈ es.toList, e.key = .int .i64 k) :
    ∃ v, (∃ e ∈ es.toList, e.key = .int .i64 k ∧ e.val = v) ∧ ∀ ok : Bool, (Instr.lookup 64 (.map (some m)) (.int .i64 k) ok).run Tryz.prog w = .ok (if ok then .tuple #[v, .bool true] else v) w := by
  obtain ⟨i, v, h1, h2⟩ := findNow_yes k es.toList 0 hk hx
  refine ⟨v, h2, fun ok => ?_⟩
  have hg := MapKept.run_getObj_map (P := Tryz.prog) hm
  have hf := MapKept.run_findKey (P := Tryz.prog) (w := w) (kt := 3) (k := .int .i64 k) (l := es.toList) Tryz.underlying3 h1
  have hc : ∀ b, (Instr.checkKey b 10000 3 (.int .i64 k)).run Tryz.prog w = .ok () w := fun b => by cases b <;> kernel_rfl
  cases ok <;> simp [go_sem, Instr.lookup, hg, hf, hc]
end
end Go.Proofs.YtlfmpoinjbmjoaaGreatDoor

namespace Go.Proofs.YtlfmpoinjbmjoaaGreatDoor
open Go.ChangeShapes Go.WideShapes Go.ChangeAt Go.RowKit

/-- the parts that are numbers -/
def epv : Value := .agg #[.func (.func 61) #[] #[], .int .i64 1, .int .i64 1099511627776]
def crv : Value := .agg #[.func (.func 62) #[] #[], .int .i64 0, .int .i64 64]
def sqv (n : Int) : Value := .agg #[.func (.func 64) #[] #[], .int .i64 n, .int .i64 1099511627776]
/-- a part behind the interface -/
def partv : Fr.P → Value
  | .ep => .iface 93 epv
  | .sq n => .iface 93 (sqv n)
  | .cr => .iface 93 crv
  | .ms => .iface 96 (.agg #[])
  | .ev => .iface 97 (.agg #[])
  | .on => .iface 98 (.agg #[])
  | .fl => .iface 99 (.agg #[])
def kname : Nat → ByteArray
  | 0 => ⟨#[97, 116, 116, 97, 99, 104]⟩
  | 1 => ⟨#[119, 101, 108, 99, 111, 109, 101]⟩
  | 2 => ⟨#[100, 97, 116, 97]⟩
  | 3 => ⟨#[97, 99, 107]⟩
  | 4 => ⟨#[98, 101, 97, 116]⟩
  | 5 => ⟨#[119, 97, 110, 116]⟩
  | _ => ⟨#[]⟩
def kparts : Nat → List Fr.P
  | 0 => Fr.p1
  | 1 => Fr.p2
  | 2 => Fr.p3
  | 3 => Fr.p4
  | 4 => Fr.p5
  | 5 => Fr.p6
  | _ => []
def kcells (j : Nat) : Array Value := ((kparts j).map partv).toArray
/-- a row of parts -/
def KS (w : World) (j : Nat) (v : Value) : Prop := ∃ b, v = .slice (some ⟨b, 0, none⟩) (kparts j).length (kparts j).length ∧ Blk w b (kcells j) 54
/-- a kind -/
def KV (w : World) (j : Nat) (v : Value) : Prop := ∃ b, v = .agg #[.string (kname j), .slice (some ⟨b, 0, none⟩) (kparts j).length (kparts j).length] ∧ Blk w b (kcells j) 54
/-- the map of kinds -/
def KMap (w : World) (m : Nat) : Prop := ∃ es c, w.heap[m]? = some (.map es c) ∧ (∀ e ∈ es.toList, ∃ j : Nat, j < 6 ∧ e.key = .int .i64 ((j + 1 : Nat) : Int) ∧ KV w j e.val) ∧ ∀ j : Nat, j < 6 → ∃ e ∈ es.toList, e.key = .int .i64 ((j + 1 : Nat) : Int)
def KWh (w : World) (v : Value) : Prop := ∃ m, v = .map (some m) ∧ KMap w m
theorem KS.kept {w w' : World} {j : Nat} {v : Value} (h : KS w j v) (k : Kept w w') : KS w' j v := let ⟨b, h1, h2⟩ := h; ⟨b, h1, h2.kept k⟩
theorem KV.kept {w w' : World} {j : Nat} {v : Value} (h : KV w j v) (k : Kept w w') : KV w' j v := let ⟨b, h1, h2⟩ := h; ⟨b, h1, h2.kept k⟩
theorem map_kept {w w' : World} {m : Nat} {o : Obj} (h : w.heap[m]? = some o) (k : Kept w w') : w'.heap[m]? = some o := (Below.block k m (heap_lt h)).trans h
theorem KMap.kept {w w' : World} {m : Nat} (h : KMap w m) (k : Kept w w') : KMap w' m :=
  let ⟨es, c, h1, h2, h3⟩ := h
  ⟨es, c, map_kept h1 k, fun e he => let ⟨j, a, b, d⟩ := h2 e he; ⟨j, a, b, d.kept k⟩, h3⟩
theorem KWh.kept {w w' : World} {v : Value} (h : KWh w v) (k : Kept w w') : KWh w' v := let ⟨m, h1, h2⟩ := h; ⟨m, h1, h2.kept k⟩
theorem put1_at {w : World} {m : Nat} {o o' : Obj} (h : w.heap[m]? = some o) : (put1 w m o').heap[m]? = some o' := by
  have := heap_lt h
  simp [put1, this]
theorem put1_ne {w : World} {m b : Nat} {o' : Obj} (hne : b ≠ m) : (put1 w m o').heap[b]? = w.heap[b]? := by
  simp [put1, Ne.symm hne]
theorem Blk.put1 {w : World} {m b : Nat} {cs : Array Value} {t : TypeId} {es : Array MapEntry} {c : Nat} (h : Blk w b cs t) (hm : w.heap[m]? = some (.map es c)) (o : Obj) : Blk (put1 w m o) b cs t := by
  unfold Blk at h ⊢
  by_cases e : b = m
  · subst e; rw [hm] at h; cases h
  · rw [put1_ne e]; exact h
theorem put1_kept {w0 w : World} {m : Nat} (k : Kept w0 w) (hm : w0.heap.size ≤ m) (o : Obj) : Kept w0 (put1 w m o) := by
  refine ⟨k.os, k.tape, k.output, ?_, fun i hi => ?_⟩
  · have := k.size; simpa [put1] using this
  · rw [put1_ne (by omega)]; exact Below.block k i hi
inductive KO where
  | const (v : Value)
  | slice (j : Nat)
  | kind (j : Nat)
  | map
  | whole
def KO.is (w : World) (v : Value) : KO → Prop
  | .const u => v = u
  | .slice j => KS w j v
  | .kind j => KV w j v
  | .map => True
  | .whole => KWh w v
theorem KO.kept {w w' : World} {v : Value} {o : KO} (h : o.is w v) (k : Kept w w') : o.is w' v := by
  cases o with
  | const u => exact h
  | slice j => exact KS.kept h k
  | kind j => exact KV.kept h k
  | map => trivial
  | whole => exact KWh.kept h k
def kd : Nat → Nat
  | 0 => 6
  | 1 => 7
  | 2 => 8
  | 3 => 9
  | 4 => 10
  | 5 => 11
  | 6 => 12
  | 7 => 1000
  | 8 => 13
  | 9 => 14
  | 10 => 15
  | 11 => 16
  | 12 => 17
  | 13 => 18
  | 14 => 19
  | 15 => 20
  | 16 => 21
  | 17 => 1000
  | 18 => 22
  | 19 => 23
  | 20 => 24
  | 21 => 25
  | 22 => 26
  | 23 => 27
  | 24 => 28
  | 25 => 29
  | 26 => 30
  | 27 => 1000
  | 28 => 31
  | 29 => 32
  | 30 => 33
  | 31 => 34
  | 32 => 35
  | 33 => 36
  | 34 => 37
  | 35 => 38
  | 36 => 39
  | 37 => 1000
  | 38 => 40
  | 39 => 41
  | 40 => 42
  | 41 => 43
  | 42 => 1000
  | 43 => 44
  | 44 => 45
  | 45 => 46
  | 46 => 47
  | 47 => 48
  | 48 => 49
  | 49 => 50
  | 50 => 51
  | 51 => 1000
  | 52 => 52
  | 53 => 0
  | _ => 1000
def ko : Nat → KO
  | 0 => .map
  | 1 => (.const epv)
  | 2 => (.const (partv .ep))
  | 3 => (.const (.agg #[]))
  | 4 => (.const (partv .ms))
  | 5 => (.slice 0)
  | 6 => (.kind 0)
  | 7 => .map
  | 8 => (.const epv)
  | 9 => (.const (partv .ep))
  | 10 => (.const (.func (.func 63) #[] #[]))
  | 11 => (.const (sqv 1))
  | 12 => (.const (partv (.sq 1)))
  | 13 => (.const (.agg #[]))
  | 14 => (.const (partv .ms))
  | 15 => (.slice 1)
  | 16 => (.kind 1)
  | 17 => .map
  | 18 => (.const epv)
  | 19 => (.const (partv .ep))
  | 20 => (.const (.func (.func 63) #[] #[]))
  | 21 => (.const (sqv 1))
  | 22 => (.const (partv (.sq 1)))
  | 23 => (.const (.agg #[]))
  | 24 => (.const (partv .ev))
  | 25 => (.slice 2)
  | 26 => (.kind 2)
  | 27 => .map
  | 28 => (.const epv)
  | 29 => (.const (partv .ep))
  | 30 => (.const (.func (.func 63) #[] #[]))
  | 31 => (.const (sqv 0))
  | 32 => (.const (partv (.sq 0)))
  | 33 => (.const crv)
  | 34 => (.const (partv .cr))
  | 35 => (.slice 3)
  | 36 => (.kind 3)
  | 37 => .map
  | 38 => (.const epv)
  | 39 => (.const (partv .ep))
  | 40 => (.slice 4)
  | 41 => (.kind 4)
  | 42 => .map
  | 43 => (.const epv)
  | 44 => (.const (partv .ep))
  | 45 => (.const (.agg #[]))
  | 46 => (.const (partv .on))
  | 47 => (.const (.agg #[]))
  | 48 => (.const (partv .fl))
  | 49 => (.slice 5)
  | 50 => (.kind 5)
  | 51 => .map
  | 52 => .whole
  | 53 => .whole
  | _ => .map
def kins : Nat → Nat
  | 0 => 7
  | 1 => 17
  | 2 => 27
  | 3 => 37
  | 4 => 42
  | 5 => 51
  | _ => 1000
theorem kd_inj : ∀ i, i < 54 → ∀ j, j < 54 → i ≠ j → kd i ≠ 1000 → kd i ≠ kd j := by decide +kernel
theorem kd_low : ∀ i, i < 54 → kd i ≠ 1000 → kd i < 53 ∧ kd i ≠ 1 ∧ kd i ≠ 2 ∧ kd i ≠ 3 ∧ (i ≠ 0 → kd i ≠ 6) := by decide +kernel
theorem kins_at : ∀ j, j < 6 → kins j < 54 ∧ kd (kins j) = 1000 ∧ kins j ≠ 0 := by decide
theorem kins_inj : ∀ i, i < 6 → ∀ j, j < 6 → kins i = kins j → i = j := by decide
theorem set_listed {listed : Array Bool} {i j : Nat} (h : (listed.setIfInBounds i true)[j]? = some true) : j = i ∨ listed[j]? = some true := by
  by_cases e : i = j
  · exact .inl e.symm
  · rw [Array.getElem?_setIfInBounds_ne e] at h; exact .inr h
theorem listed_set {listed : Array Bool} {i j : Nat} (h : listed[j]? = some true) : (listed.setIfInBounds i true)[j]? = some true := by
  by_cases e : i = j
  · subst e
    rw [Array.getElem?_setIfInBounds_self_of_lt (Array.getElem?_eq_some_iff.1 h).1]
  · rw [Array.getElem?_setIfInBounds_ne e]; exact h

/-- what holds while the map is laid -/
structure KInv (w0 : World) (eb cb : Nat) (listed : Array Bool) (a : Act) (w : World) : Prop where
  lsize : listed.size = 54
  size : a.tmps.size = 53
  defers : a.defers = []
  t1 : At a 1 (.pointer (some ⟨eb, 0, none⟩))
  t2 : At a 2 (.pointer (some ⟨cb, 0, none⟩))
  t3 : At a 3 (.func (.func 63) #[] #[])
  e0 : Blk w eb #[.func (.func 61) #[] #[], .int .i64 1, .int .i64 1099511627776] 93
  c0 : Blk w cb #[.func (.func 62) #[] #[], .int .i64 0, .int .i64 64] 93
  kept : Kept w0 w
  vals : ∀ i, listed[i]? = some true → kd i ≠ 1000 → ∃ v, At a (kd i) v ∧ (ko i).is w v
  map : listed[0]? = some true → ∃ m es c, At a 6 (.map (some m)) ∧ w.heap[m]? = some (.map es c) ∧ w0.heap.size ≤ m ∧
    (∀ e ∈ es.toList, ∃ j : Nat, j < 6 ∧ e.key = .int .i64 ((j + 1 : Nat) : Int) ∧ listed[kins j]? = some true ∧ KV w j e.val) ∧ ∀ j : Nat, j < 6 → listed[kins j]? = some true → ∃ e ∈ es.toList, e.key = .int .i64 ((j + 1 : Nat) : Int)
  clos : ∀ j, j < 6 → listed[kins j]? = some true → listed[0]? = some true

section
variable {w0 w : World} {eb cb : Nat} {listed : Array Bool} {a : Act}
theorem KInv.val (h : KInv w0 eb cb listed a w) (i : Nat) (hi : listed[i]? = some false) (h0 : i ≠ 0) (hk : kd i ≠ 1000) {w' : World} (kx : Kept w w') {v : Value} (hv : (ko i).is w' v) : KInv w0 eb cb (listed.setIfInBounds i true) (a.put (some (kd i)) v) w' := by
  have hlt : i < 54 := by have := (Array.getElem?_eq_some_iff.1 hi).1; have := h.lsize; omega
  obtain ⟨l1, l2, l3, l4, l5⟩ := kd_low i hlt hk
  have hins : ∀ j, j < 6 → kins j ≠ i := fun j hj e => hk (by rw [← e]; exact (kins_at j hj).2.1)
  have hun : ∀ j, j < 6 → (listed.setIfInBounds i true)[kins j]? = some true → listed[kins j]? = some true := fun j hj hl => (set_listed hl).resolve_left (hins j hj)
  refine ⟨by simpa using h.lsize, (size_put _ _ _).trans h.size, h.defers, h.t1.ne l2, h.t2.ne l3, h.t3.ne l4, h.e0.kept kx, h.c0.kept kx, h.kept.trans kx, fun j hj hk' => ?_, fun hl => ?_, fun j hj hl => listed_set (h.clos j hj (hun j hj hl))⟩
  · rcases set_listed hj with rfl | hj
    · exact ⟨v, At.eq (by rw [h.size]; exact l1), hv⟩
    · obtain ⟨u, h1, h2⟩ := h.vals j hj hk'
      have hlj : j < 54 := by have := (Array.getElem?_eq_some_iff.1 hj).1; have := h.lsize; omega
      have hne : i ≠ j := fun e => by subst e; rw [hi] at hj; cases hj
      exact ⟨u, h1.ne (kd_inj i hlt j hlj hne hk), KO.kept h2 kx⟩
  · rcases set_listed hl with e | hl
    · exact absurd e.symm h0
    · obtain ⟨m, es, c, h1, h2, h3, h4, h5⟩ := h.map hl
      exact ⟨m, es, c, h1.ne (l5 h0), map_kept h2 kx, h3, fun e he => let ⟨j, a1, a2, a3, a4⟩ := h4 e he; ⟨j, a1, a2, listed_set a3, a4.kept kx⟩, fun j hj hlj => h5 j hj (hun j hj hlj)⟩
theorem KInv.new (h : KInv w0 eb cb listed a w) (hi : listed[0]? = some false) : KInv w0 eb cb (listed.setIfInBounds 0 true) (a.put (some 6) (.map (some w.heap.size))) (w.alloc (.map #[] 0)) := by
  have kx : Kept w (w.alloc (.map #[] 0)) := (Kept.refl w).alloc _
  have hnot : ∀ j, j < 6 → listed[kins j]? = some true → False := fun j hj hl => by have := h.clos j hj hl; rw [hi] at this; cases this
  refine ⟨by simpa using h.lsize, (size_put _ _ _).trans h.size, h.defers, h.t1.ne (by decide), h.t2.ne (by decide), h.t3.ne (by decide), h.e0.kept kx, h.c0.kept kx, h.kept.trans kx, fun j hj hk' => ?_, fun _ => ?_, fun j hj hl => ?_⟩
  · rcases set_listed hj with rfl | hj
    · exact ⟨_, At.eq (by rw [h.size]; decide), trivial⟩
    · obtain ⟨u, h1, h2⟩ := h.vals j hj hk'
      have hlj : j < 54 := by have := (Array.getElem?_eq_some_iff.1 hj).1; have := h.lsize; omega
      have hne : 0 ≠ j := fun e => by subst e; rw [hi] at hj; cases hj
      exact ⟨u, h1.ne (kd_inj 0 (by decide) j hlj hne (by decide)), KO.kept h2 kx⟩
  · refine ⟨w.heap.size, #[], 0, At.eq (by rw [h.size]; decide), heap_alloc_new w _, h.kept.size, fun e he => by simp at he, fun j hj hl => ?_⟩
    rcases set_listed hl with e | hl
    · exact absurd e (kins_at j hj).2.2
    · exact (hnot j hj hl).elim
  · rcases set_listed hl with e | hl
    · exact absurd e (kins_at j hj).2.2
    · exact (hnot j hj hl).elim
theorem KInv.ins (h : KInv w0 eb cb listed a w) (j : Nat) (hj : j < 6) (hi : listed[kins j]? = some false) (h0 : listed[0]? = some true) {v : Value} (hv : KV w j v) :
    ∃ m es c, At a 6 (.map (some m)) ∧ w.heap[m]? = some (.map es c) ∧ (∀ e ∈ es.toList, ∃ x : Int, e.key = .int .i64 x ∧ x ≠ ((j + 1 : Nat) : Int)) ∧
      KInv w0 eb cb (listed.setIfInBounds (kins j) true) a (put1 w m (.map (es.push ⟨.int .i64 ((j + 1 : Nat) : Int), v, c⟩) (c + 1))) := by
  obtain ⟨m, es, c, h1, h2, h3, h4, h5⟩ := h.map h0
  refine ⟨m, es, c, h1, h2, fun e he => ?_, ?_⟩
  · obtain ⟨x, a1, a2, a3, _⟩ := h4 e he
    refine ⟨_, a2, fun e' => ?_⟩
    have : x = j := by omega
    subst this
    rw [hi] at a3; cases a3
  have kv : ∀ {x : Nat} {u : Value}, KV w x u → KV (put1 w m (.map (es.push ⟨.int .i64 ((j + 1 : Nat) : Int), v, c⟩) (c + 1))) x u := fun ⟨b, p, q⟩ => ⟨b, p, q.put1 h2 _⟩
  have hm' := put1_at (o' := .map (es.push ⟨.int .i64 ((j + 1 : Nat) : Int), v, c⟩) (c + 1)) h2
  refine ⟨by simpa using h.lsize, h.size, h.defers, h.t1, h.t2, h.t3, h.e0.put1 h2 _, h.c0.put1 h2 _, put1_kept h.kept h3 _, fun i hl hk' => ?_, fun _ => ?_, fun x hx hl => ?_⟩
  · rcases set_listed hl with rfl | hl
    · exact absurd (kins_at j hj).2.1 hk'
    · obtain ⟨u, q1, q2⟩ := h.vals i hl hk'
      refine ⟨u, q1, ?_⟩
      generalize ko i = o at q2
      cases o with
      | const _ => exact q2
      | slice x => obtain ⟨b, p, q⟩ := q2; exact ⟨b, p, q.put1 h2 _⟩
      | kind x => exact kv q2
      | map => trivial
      | whole =>
        obtain ⟨m', rfl, es', c', r1, r2, r3⟩ := q2
        refine ⟨m', rfl, ?_⟩
        by_cases e : m' = m
        · subst e
          rw [h2] at r1
          cases r1
          refine ⟨_, _, hm', fun e he => ?_, fun x hx => ?_⟩
          · simp only [Array.toList_push, List.mem_append, List.mem_singleton] at he
            rcases he with he | rfl
            · obtain ⟨y, b1, b2, b3⟩ := r2 e he
              exact ⟨y, b1, b2, kv b3⟩
            · exact ⟨j, hj, rfl, kv hv⟩
          · obtain ⟨e, he, hk⟩ := r3 x hx
            exact ⟨e, by simp [he], hk⟩
        · exact ⟨es', c', by rw [put1_ne e]; exact r1, fun e he => let ⟨y, b1, b2, b3⟩ := r2 e he; ⟨y, b1, b2, kv b3⟩, r3⟩
  · refine ⟨m, _, _, h1, hm', h3, fun e he => ?_, fun x hx hl => ?_⟩
    · simp only [Array.toList_push, List.mem_append, List.mem_singleton] at he
      rcases he with he | rfl
      · obtain ⟨y, b1, b2, b3, b4⟩ := h4 e he
        exact ⟨y, b1, b2, listed_set b3, kv b4⟩
      · exact ⟨j, hj, rfl, by rw [Array.getElem?_setIfInBounds_self_of_lt (Array.getElem?_eq_some_iff.1 hi).1], kv hv⟩
    · rcases set_listed hl with e | hl
      · have := kins_inj x hx j hj e
        subst this
        exact ⟨⟨.int .i64 ((x + 1 : Nat) : Int), v, c⟩, by simp, rfl⟩
      · obtain ⟨e, he, hk⟩ := h5 x hx hl
        exact ⟨e, by simp [he], hk⟩
  · exact listed_set h0
end

section
variable {a : Act} {dst : Option Tmp} {ty : TypeId} {pos : String} {after : Array Edge} {guard : Option (Nat × Bool)}
theorem rk_map (w : World) : (execOp a.eval ⟨dst, .makeMap 64 none, ty, pos, after, guard⟩).run Tryz.prog w = .ok (.value (.map (some w.heap.size))) (w.alloc (.map #[] 0)) := by
  have hmm := @run_makeMap Tryz.prog
  generalize a.eval = ρ at *
  simp [go_sem, hmm]
theorem rk_load {n b : Nat} {v : Value} {x y : Int} (h : At a n (.pointer (some ⟨b, 0, none⟩))) (w : World) (hb : Blk w b #[v, .int .i64 x, .int .i64 y] 93) : (execOp a.eval ⟨dst, .load 93 (.tmp n), ty, pos, after, guard⟩).run Tryz.prog w = .ok (.value (.agg #[v, .int .i64 x, .int .i64 y])) w := by
  have e1 := h.eval
  have c0 := hb.cell 0
  have c1 := hb.cell 1
  have c2 := hb.cell 2
  simp only [List.getElem?_toArray, List.getElem?_cons_zero, List.getElem?_cons_succ] at c0 c1 c2
  generalize a.eval = ρ at *
  simp [go_sem, e1, c0, c1, c2]
theorem rk_iface {T n : Nat} {v : Value} (hT : Tryz.prog.concrete T = true) (h : At a n v) (w : World) : (execOp a.eval ⟨dst, .makeInterface T (.tmp n), ty, pos, after, guard⟩).run Tryz.prog w = .ok (.value (.iface T v)) w := by
  have e1 := h.eval
  have e2 := run_makeInterface (P := Tryz.prog) w T v hT
  generalize a.eval = ρ at *
  simp [go_sem, e1, e2]
theorem rk_move {n : Nat} {v : Value} (h : At a n v) (w : World) : (execOp a.eval ⟨dst, .move (.tmp n), ty, pos, after, guard⟩).run Tryz.prog w = .ok (.value v) w := by
  have e1 := h.eval
  generalize a.eval = ρ at *
  simp [go_sem, e1]
theorem rk_asg {n : Nat} {v : Value} (h : At a n v) (w : World) : (execOp a.eval ⟨dst, .assign (.tmp n), ty, pos, after, guard⟩).run Tryz.prog w = .ok (.value v) w := by
  have e1 := h.eval
  generalize a.eval = ρ at *
  simp [go_sem, e1]
theorem rk_b96 (w : World) : (execOp a.eval ⟨dst, .build 96 #[], ty, pos, after, guard⟩).run Tryz.prog w = .ok (.value (.agg #[])) w := by
  generalize a.eval = ρ at *
  simp [go_sem]
theorem rk_b97 (w : World) : (execOp a.eval ⟨dst, .build 97 #[], ty, pos, after, guard⟩).run Tryz.prog w = .ok (.value (.agg #[])) w := by
  generalize a.eval = ρ at *
  simp [go_sem]
theorem rk_b98 (w : World) : (execOp a.eval ⟨dst, .build 98 #[], ty, pos, after, guard⟩).run Tryz.prog w = .ok (.value (.agg #[])) w := by
  generalize a.eval = ρ at *
  simp [go_sem]
theorem rk_b99 (w : World) : (execOp a.eval ⟨dst, .build 99 #[], ty, pos, after, guard⟩).run Tryz.prog w = .ok (.value (.agg #[])) w := by
  generalize a.eval = ρ at *
  simp [go_sem]
theorem rk_bk {n b k c : Nat} {s : ByteArray} (h : At a n (.slice (some ⟨b, 0, none⟩) k c)) (w : World) : (execOp a.eval ⟨dst, .build 44 #[(0, .const (.string s)), (1, .tmp n)], ty, pos, after, guard⟩).run Tryz.prog w = .ok (.value (.agg #[.string s, .slice (some ⟨b, 0, none⟩) k c])) w := by
  have e1 := h.eval
  have e2 : a.eval (.const (.string s)) = .string s := rfl
  generalize a.eval = ρ at *
  simp [go_sem, e1, e2]
theorem rk_s1 {n0 : Nat} {t0 : TypeId} {v0 : Value} (h0 : At a n0 (.iface t0 v0)) (w : World) : (execOp a.eval ⟨dst, .buildSlice 42 1 #[(0, .tmp n0)], ty, pos, after, guard⟩).run Tryz.prog w = .ok (.value (.slice (some ⟨w.heap.size, 0, none⟩) 1 1)) (w.alloc (.cells #[.iface t0 v0] 54)) := by
  have e0 := h0.eval
  generalize a.eval = ρ at *
  simp [go_sem, e0]
theorem rk_s2 {n0 n1 : Nat} {t0 t1 : TypeId} {v0 v1 : Value} (h0 : At a n0 (.iface t0 v0)) (h1 : At a n1 (.iface t1 v1)) (w : World) : (execOp a.eval ⟨dst, .buildSlice 42 2 #[(0, .tmp n0), (1, .tmp n1)], ty, pos, after, guard⟩).run Tryz.prog w = .ok (.value (.slice (some ⟨w.heap.size, 0, none⟩) 2 2)) (w.alloc (.cells #[.iface t0 v0, .iface t1 v1] 54)) := by
  have e0 := h0.eval
  have e1 := h1.eval
  generalize a.eval = ρ at *
  simp [go_sem, e0, e1]
theorem rk_s3 {n0 n1 n2 : Nat} {t0 t1 t2 : TypeId} {v0 v1 v2 : Value} (h0 : At a n0 (.iface t0 v0)) (h1 : At a n1 (.iface t1 v1)) (h2 : At a n2 (.iface t2 v2)) (w : World) : (execOp a.eval ⟨dst, .buildSlice 42 3 #[(0, .tmp n0), (1, .tmp n1), (2, .tmp n2)], ty, pos, after, guard⟩).run Tryz.prog w = .ok (.value (.slice (some ⟨w.heap.size, 0, none⟩) 3 3)) (w.alloc (.cells #[.iface t0 v0, .iface t1 v1, .iface t2 v2] 54)) := by
  have e0 := h0.eval
  have e1 := h1.eval
  have e2 := h2.eval
  generalize a.eval = ρ at *
  simp [go_sem, e0, e1, e2]
theorem rk_call {n : Nat} {x : Int} (h : At a n (.func (.func 63) #[] #[])) (w : World) : (execOp a.eval ⟨dst, .call { callee := .value (.tmp n), args := #[.const (.int .i64 x)], argTypes := #[3] }, ty, pos, after, guard⟩).run Tryz.prog w = .ok (.enter 63 #[.int .i64 x]) w := by
  have e1 := h.eval
  have e2 : a.eval (.const (.int .i64 x)) = .int .i64 x := rfl
  generalize a.eval = ρ at *
  simp [go_sem, e1, e2]
end

/-- the operations of the region -/
def kops : Array Oper := #[⟨some 6, Op.makeMap 64 none, 64, "frame.go:179", #[], none⟩,
  ⟨some 7, Op.load 93 (Operand.tmp 1), 93, "frame.go:179", #[], none⟩,
  ⟨some 8, Op.makeInterface 93 (Operand.tmp 7), 54, "frame.go:179", #[⟨1, Ground.data⟩], none⟩,
  ⟨some 9, Op.build 96 #[], 96, "frame.go:179", #[], none⟩,
  ⟨some 10, Op.makeInterface 96 (Operand.tmp 9), 54, "frame.go:179", #[⟨3, Ground.data⟩], none⟩,
  ⟨some 11, Op.buildSlice 42 2 #[(0, Operand.tmp 8), (1, Operand.tmp 10)], 42, "frame.go:179", #[⟨2, Ground.data⟩, ⟨4, Ground.data⟩], none⟩,
  ⟨some 12, Op.build 44 #[(0, Operand.const (Value.string ⟨#[97, 116, 116, 97, 99, 104]⟩)), (1, Operand.tmp 11)], 44, "frame.go:179", #[⟨5, Ground.data⟩], none⟩,
  ⟨none, Op.insert 64 (Operand.tmp 6) (Operand.const (Value.int IntKind.i64 1)) (Operand.tmp 12), 0, "frame.go:179", #[⟨0, Ground.data⟩, ⟨6, Ground.data⟩], none⟩,
  ⟨some 13, Op.load 93 (Operand.tmp 1), 93, "frame.go:179", #[], none⟩,
  ⟨some 14, Op.makeInterface 93 (Operand.tmp 13), 54, "frame.go:179", #[⟨8, Ground.data⟩], none⟩,
  ⟨some 15, Op.move (Operand.tmp 3), 94, "frame.go:179", #[], none⟩,
  ⟨some 16, Op.call { callee := Callee.value (Operand.tmp 15), args := #[Operand.const (Value.int IntKind.i64 1)], argTypes := #[3] }, 93, "frame.go:181", #[⟨10, Ground.data⟩], none⟩,
  ⟨some 17, Op.makeInterface 93 (Operand.tmp 16), 54, "frame.go:179", #[⟨11, Ground.data⟩], none⟩,
  ⟨some 18, Op.build 96 #[], 96, "frame.go:179", #[], none⟩,
  ⟨some 19, Op.makeInterface 96 (Operand.tmp 18), 54, "frame.go:179", #[⟨13, Ground.data⟩], none⟩,
  ⟨some 20, Op.buildSlice 42 3 #[(0, Operand.tmp 14), (1, Operand.tmp 17), (2, Operand.tmp 19)], 42, "frame.go:179", #[⟨9, Ground.data⟩, ⟨12, Ground.data⟩, ⟨14, Ground.data⟩], none⟩,
  ⟨some 21, Op.build 44 #[(0, Operand.const (Value.string ⟨#[119, 101, 108, 99, 111, 109, 101]⟩)), (1, Operand.tmp 20)], 44, "frame.go:179", #[⟨15, Ground.data⟩], none⟩,
  ⟨none, Op.insert 64 (Operand.tmp 6) (Operand.const (Value.int IntKind.i64 2)) (Operand.tmp 21), 0, "frame.go:179", #[⟨0, Ground.data⟩, ⟨16, Ground.data⟩], none⟩,
  ⟨some 22, Op.load 93 (Operand.tmp 1), 93, "frame.go:179", #[], none⟩,
  ⟨some 23, Op.makeInterface 93 (Operand.tmp 22), 54, "frame.go:179", #[⟨18, Ground.data⟩], none⟩,
  ⟨some 24, Op.move (Operand.tmp 3), 94, "frame.go:179", #[], none⟩,
  ⟨some 25, Op.call { callee := Callee.value (Operand.tmp 24), args := #[Operand.const (Value.int IntKind.i64 1)], argTypes := #[3] }, 93, "frame.go:182", #[⟨20, Ground.data⟩, ⟨11, Ground.chain⟩], none⟩,
  ⟨some 26, Op.makeInterface 93 (Operand.tmp 25), 54, "frame.go:179", #[⟨21, Ground.data⟩], none⟩,
  ⟨some 27, Op.build 97 #[], 97, "frame.go:179", #[], none⟩,
  ⟨some 28, Op.makeInterface 97 (Operand.tmp 27), 54, "frame.go:179", #[⟨23, Ground.data⟩], none⟩,
  ⟨some 29, Op.buildSlice 42 3 #[(0, Operand.tmp 23), (1, Operand.tmp 26), (2, Operand.tmp 28)], 42, "frame.go:179", #[⟨19, Ground.data⟩, ⟨22, Ground.data⟩, ⟨24, Ground.data⟩], none⟩,
  ⟨some 30, Op.build 44 #[(0, Operand.const (Value.string ⟨#[100, 97, 116, 97]⟩)), (1, Operand.tmp 29)], 44, "frame.go:179", #[⟨25, Ground.data⟩], none⟩,
  ⟨none, Op.insert 64 (Operand.tmp 6) (Operand.const (Value.int IntKind.i64 3)) (Operand.tmp 30), 0, "frame.go:179", #[⟨0, Ground.data⟩, ⟨26, Ground.data⟩], none⟩,
  ⟨some 31, Op.load 93 (Operand.tmp 1), 93, "frame.go:179", #[], none⟩,
  ⟨some 32, Op.makeInterface 93 (Operand.tmp 31), 54, "frame.go:179", #[⟨28, Ground.data⟩], none⟩,
  ⟨some 33, Op.move (Operand.tmp 3), 94, "frame.go:179", #[], none⟩,
  ⟨some 34, Op.call { callee := Callee.value (Operand.tmp 33), args := #[Operand.const (Value.int IntKind.i64 0)], argTypes := #[3] }, 93, "frame.go:183", #[⟨30, Ground.data⟩, ⟨21, Ground.chain⟩], none⟩,
  ⟨some 35, Op.makeInterface 93 (Operand.tmp 34), 54, "frame.go:179", #[⟨31, Ground.data⟩], none⟩,
  ⟨some 36, Op.load 93 (Operand.tmp 2), 93, "frame.go:179", #[], none⟩,
  ⟨some 37, Op.makeInterface 93 (Operand.tmp 36), 54, "frame.go:179", #[⟨33, Ground.data⟩], none⟩,
  ⟨some 38, Op.buildSlice 42 3 #[(0, Operand.tmp 32), (1, Operand.tmp 35), (2, Operand.tmp 37)], 42, "frame.go:179", #[⟨29, Ground.data⟩, ⟨32, Ground.data⟩, ⟨34, Ground.data⟩], none⟩,
  ⟨some 39, Op.build 44 #[(0, Operand.const (Value.string ⟨#[97, 99, 107]⟩)), (1, Operand.tmp 38)], 44, "frame.go:179", #[⟨35, Ground.data⟩], none⟩,
  ⟨none, Op.insert 64 (Operand.tmp 6) (Operand.const (Value.int IntKind.i64 4)) (Operand.tmp 39), 0, "frame.go:179", #[⟨0, Ground.data⟩, ⟨36, Ground.data⟩], none⟩,
  ⟨some 40, Op.load 93 (Operand.tmp 1), 93, "frame.go:179", #[], none⟩,
  ⟨some 41, Op.makeInterface 93 (Operand.tmp 40), 54, "frame.go:179", #[⟨38, Ground.data⟩], none⟩,
  ⟨some 42, Op.buildSlice 42 1 #[(0, Operand.tmp 41)], 42, "frame.go:179", #[⟨39, Ground.data⟩], none⟩,
  ⟨some 43, Op.build 44 #[(0, Operand.const (Value.string ⟨#[98, 101, 97, 116]⟩)), (1, Operand.tmp 42)], 44, "frame.go:179", #[⟨40, Ground.data⟩], none⟩,
  ⟨none, Op.insert 64 (Operand.tmp 6) (Operand.const (Value.int IntKind.i64 5)) (Operand.tmp 43), 0, "frame.go:179", #[⟨0, Ground.data⟩, ⟨41, Ground.data⟩], none⟩,
  ⟨some 44, Op.load 93 (Operand.tmp 1), 93, "frame.go:179", #[], none⟩,
  ⟨some 45, Op.makeInterface 93 (Operand.tmp 44), 54, "frame.go:179", #[⟨43, Ground.data⟩], none⟩,
  ⟨some 46, Op.build 98 #[], 98, "frame.go:179", #[], none⟩,
  ⟨some 47, Op.makeInterface 98 (Operand.tmp 46), 54, "frame.go:179", #[⟨45, Ground.data⟩], none⟩,
  ⟨some 48, Op.build 99 #[], 99, "frame.go:179", #[], none⟩,
  ⟨some 49, Op.makeInterface 99 (Operand.tmp 48), 54, "frame.go:179", #[⟨47, Ground.data⟩], none⟩,
  ⟨some 50, Op.buildSlice 42 3 #[(0, Operand.tmp 45), (1, Operand.tmp 47), (2, Operand.tmp 49)], 42, "frame.go:179", #[⟨44, Ground.data⟩, ⟨46, Ground.data⟩, ⟨48, Ground.data⟩], none⟩,
  ⟨some 51, Op.build 44 #[(0, Operand.const (Value.string ⟨#[119, 97, 110, 116]⟩)), (1, Operand.tmp 50)], 44, "frame.go:179", #[⟨49, Ground.data⟩], none⟩,
  ⟨none, Op.insert 64 (Operand.tmp 6) (Operand.const (Value.int IntKind.i64 6)) (Operand.tmp 51), 0, "frame.go:179", #[⟨0, Ground.data⟩, ⟨50, Ground.data⟩], none⟩,
  ⟨some 52, Op.move (Operand.tmp 6), 64, "frame.go:179", #[⟨0, Ground.data⟩, ⟨1, Ground.data⟩, ⟨2, Ground.data⟩, ⟨3, Ground.data⟩, ⟨4, Ground.data⟩, ⟨5, Ground.data⟩, ⟨6, Ground.data⟩, ⟨7, Ground.data⟩, ⟨8, Ground.data⟩, ⟨9, Ground.data⟩, ⟨10, Ground.data⟩, ⟨11, Ground.data⟩, ⟨12, Ground.data⟩, ⟨13, Ground.data⟩, ⟨14, Ground.data⟩, ⟨15, Ground.data⟩, ⟨16, Ground.data⟩, ⟨17, Ground.data⟩, ⟨18, Ground.data⟩, ⟨19, Ground.data⟩, ⟨20, Ground.data⟩, ⟨21, Ground.data⟩, ⟨22, Ground.data⟩, ⟨23, Ground.data⟩, ⟨24, Ground.data⟩, ⟨25, Ground.data⟩, ⟨26, Ground.data⟩, ⟨27, Ground.data⟩, ⟨28, Ground.data⟩, ⟨29, Ground.data⟩, ⟨30, Ground.data⟩, ⟨31, Ground.data⟩, ⟨32, Ground.data⟩, ⟨33, Ground.data⟩, ⟨34, Ground.data⟩, ⟨35, Ground.data⟩, ⟨36, Ground.data⟩, ⟨37, Ground.data⟩, ⟨38, Ground.data⟩, ⟨39, Ground.data⟩, ⟨40, Ground.data⟩, ⟨41, Ground.data⟩, ⟨42, Ground.data⟩, ⟨43, Ground.data⟩, ⟨44, Ground.data⟩, ⟨45, Ground.data⟩, ⟨46, Ground.data⟩, ⟨47, Ground.data⟩, ⟨48, Ground.data⟩, ⟨49, Ground.data⟩, ⟨50, Ground.data⟩, ⟨51, Ground.data⟩], none⟩,
  ⟨some 0, Op.assign (Operand.tmp 52), 64, "frame.go:179", #[⟨52, Ground.data⟩, ⟨31, Ground.chain⟩, ⟨0, Ground.phase⟩, ⟨1, Ground.phase⟩, ⟨2, Ground.phase⟩, ⟨3, Ground.phase⟩, ⟨4, Ground.phase⟩, ⟨5, Ground.phase⟩, ⟨6, Ground.phase⟩, ⟨7, Ground.phase⟩, ⟨8, Ground.phase⟩, ⟨9, Ground.phase⟩, ⟨10, Ground.phase⟩, ⟨11, Ground.phase⟩, ⟨12, Ground.phase⟩, ⟨13, Ground.phase⟩, ⟨14, Ground.phase⟩, ⟨15, Ground.phase⟩, ⟨16, Ground.phase⟩, ⟨17, Ground.phase⟩, ⟨18, Ground.phase⟩, ⟨19, Ground.phase⟩, ⟨20, Ground.phase⟩, ⟨21, Ground.phase⟩, ⟨22, Ground.phase⟩, ⟨23, Ground.phase⟩, ⟨24, Ground.phase⟩, ⟨25, Ground.phase⟩, ⟨26, Ground.phase⟩, ⟨27, Ground.phase⟩, ⟨28, Ground.phase⟩, ⟨29, Ground.phase⟩, ⟨30, Ground.phase⟩, ⟨31, Ground.phase⟩, ⟨32, Ground.phase⟩, ⟨33, Ground.phase⟩, ⟨34, Ground.phase⟩, ⟨35, Ground.phase⟩, ⟨36, Ground.phase⟩, ⟨37, Ground.phase⟩, ⟨38, Ground.phase⟩, ⟨39, Ground.phase⟩, ⟨40, Ground.phase⟩, ⟨41, Ground.phase⟩, ⟨42, Ground.phase⟩, ⟨43, Ground.phase⟩, ⟨44, Ground.phase⟩, ⟨45, Ground.phase⟩, ⟨46, Ground.phase⟩, ⟨47, Ground.phase⟩, ⟨48, Ground.phase⟩, ⟨49, Ground.phase⟩, ⟨50, Ground.phase⟩, ⟨51, Ground.phase⟩, ⟨52, Ground.phase⟩], none⟩]
/-- an operation may come up -/
def KP (w0 : World) (eb cb : Nat) (Q : Exit → Act → World → Prop) (i : Nat) : Prop := ∀ (listed : Array Bool) (a : Act) (w : World) (o : Oper), KInv w0 eb cb listed a w → kops[i]? = some o → listed[i]? = some false → (∀ e ∈ o.after, Region.binds .any e = true → listed[e.on]? = some true) →
  ∀ K : Act → World → Prop, (∀ a' w', KInv w0 eb cb (listed.setIfInBounds i true) a' w' → K a' w') → if Region.wanted o (yielded kops a.tmps) = true then Oper.wp Tryz.prog o a w K Q else K (a.put o.dst undef) w
section
variable {w0 : World} {eb cb : Nat} {Q : Exit → Act → World → Prop}

set_option maxRecDepth 20000 in
theorem ks_0 : KP w0 eb cb Q 0 := by
  intro listed a w o h ho hl hd K hK
  rw [show kops[0]? = some ⟨some 6, Op.makeMap 64 none, 64, "frame.go:179", #[], none⟩ from rfl] at ho
  cases ho
  exact wp_yield rfl rfl (rk_map w) (hK _ _ (h.new hl))
set_option maxRecDepth 20000 in
theorem ks_1 : KP w0 eb cb Q 1 := by
  intro listed a w o h ho hl hd K hK
  rw [show kops[1]? = some ⟨some 7, Op.load 93 (Operand.tmp 1), 93, "frame.go:179", #[], none⟩ from rfl] at ho
  cases ho
  exact wp_yield rfl rfl (rk_load h.t1 w h.e0) (hK _ _ (h.val 1 hl (by decide) (by decide) (Kept.refl w) rfl))
set_option maxRecDepth 20000 in
theorem ks_2 : KP w0 eb cb Q 2 := by
  intro listed a w o h ho hl hd K hK
  rw [show kops[2]? = some ⟨some 8, Op.makeInterface 93 (Operand.tmp 7), 54, "frame.go:179", #[⟨1, Ground.data⟩], none⟩ from rfl] at ho
  cases ho
  obtain ⟨x, x_a, x_v⟩ := h.vals 1 (hd ⟨1, .data⟩ (by simp) rfl) (by decide)
  obtain rfl := (show x = epv from x_v)
  exact wp_yield rfl rfl (rk_iface (by kernel_rfl) x_a w) (hK _ _ (h.val 2 hl (by decide) (by decide) (Kept.refl w) rfl))
set_option maxRecDepth 20000 in
theorem ks_3 : KP w0 eb cb Q 3 := by
  intro listed a w o h ho hl hd K hK
  rw [show kops[3]? = some ⟨some 9, Op.build 96 #[], 96, "frame.go:179", #[], none⟩ from rfl] at ho
  cases ho
  exact wp_yield rfl rfl (rk_b96 w) (hK _ _ (h.val 3 hl (by decide) (by decide) (Kept.refl w) rfl))
set_option maxRecDepth 20000 in
theorem ks_4 : KP w0 eb cb Q 4 := by
  intro listed a w o h ho hl hd K hK
  rw [show kops[4]? = some ⟨some 10, Op.makeInterface 96 (Operand.tmp 9), 54, "frame.go:179", #[⟨3, Ground.data⟩], none⟩ from rfl] at ho
  cases ho
  obtain ⟨x, x_a, x_v⟩ := h.vals 3 (hd ⟨3, .data⟩ (by simp) rfl) (by decide)
  obtain rfl := (show x = (.agg #[]) from x_v)
  exact wp_yield rfl rfl (rk_iface (by kernel_rfl) x_a w) (hK _ _ (h.val 4 hl (by decide) (by decide) (Kept.refl w) rfl))
set_option maxRecDepth 20000 in
theorem ks_5 : KP w0 eb cb Q 5 := by
  intro listed a w o h ho hl hd K hK
  rw [show kops[5]? = some ⟨some 11, Op.buildSlice 42 2 #[(0, Operand.tmp 8), (1, Operand.tmp 10)], 42, "frame.go:179", #[⟨2, Ground.data⟩, ⟨4, Ground.data⟩], none⟩ from rfl] at ho
  cases ho
  obtain ⟨x0, x0_a, x0_v⟩ := h.vals 2 (hd ⟨2, .data⟩ (by simp) rfl) (by decide)
  obtain rfl := (show x0 = (partv .ep) from x0_v)
  obtain ⟨x1, x1_a, x1_v⟩ := h.vals 4 (hd ⟨4, .data⟩ (by simp) rfl) (by decide)
  obtain rfl := (show x1 = (partv .ms) from x1_v)
  exact wp_yield rfl rfl (rk_s2 x0_a x1_a w) (hK _ _ (h.val 5 hl (by decide) (by decide) ((Kept.refl w).alloc _) ⟨w.heap.size, rfl, Blk.made w _ _⟩))
set_option maxRecDepth 20000 in
theorem ks_6 : KP w0 eb cb Q 6 := by
  intro listed a w o h ho hl hd K hK
  rw [show kops[6]? = some ⟨some 12, Op.build 44 #[(0, Operand.const (Value.string ⟨#[97, 116, 116, 97, 99, 104]⟩)), (1, Operand.tmp 11)], 44, "frame.go:179", #[⟨5, Ground.data⟩], none⟩ from rfl] at ho
  cases ho
  obtain ⟨x, x_a, x_v⟩ := h.vals 5 (hd ⟨5, .data⟩ (by simp) rfl) (by decide)
  obtain ⟨b, rfl, hb⟩ := (show KS w 0 x from x_v)
  exact wp_yield rfl rfl (rk_bk x_a w) (hK _ _ (h.val 6 hl (by decide) (by decide) (Kept.refl w) ⟨b, rfl, hb⟩))
set_option maxRecDepth 20000 in
theorem ks_7 : KP w0 eb cb Q 7 := by
  intro listed a w o h ho hl hd K hK
  rw [show kops[7]? = some ⟨none, Op.insert 64 (Operand.tmp 6) (Operand.const (Value.int IntKind.i64 1)) (Operand.tmp 12), 0, "frame.go:179", #[⟨0, Ground.data⟩, ⟨6, Ground.data⟩], none⟩ from rfl] at ho
  cases ho
  obtain ⟨x, x_a, x_v⟩ := h.vals 6 (hd ⟨6, .data⟩ (by simp) rfl) (by decide)
  obtain ⟨m, es, c, q1, q2, q3, q4⟩ := h.ins 0 (by decide) hl (hd ⟨0, .data⟩ (by simp) rfl) (show KV w 0 x from x_v)
  exact wp_skips rfl rfl (rk_ins q1 x_a w q2 q3) (hK _ _ q4)
set_option maxRecDepth 20000 in
theorem ks_8 : KP w0 eb cb Q 8 := by
  intro listed a w o h ho hl hd K hK
  rw [show kops[8]? = some ⟨some 13, Op.load 93 (Operand.tmp 1), 93, "frame.go:179", #[], none⟩ from rfl] at ho
  cases ho
  exact wp_yield rfl rfl (rk_load h.t1 w h.e0) (hK _ _ (h.val 8 hl (by decide) (by decide) (Kept.refl w) rfl))
set_option maxRecDepth 20000 in
theorem ks_9 : KP w0 eb cb Q 9 := by
  intro listed a w o h ho hl hd K hK
  rw [show kops[9]? = some ⟨some 14, Op.makeInterface 93 (Operand.tmp 13), 54, "frame.go:179", #[⟨8, Ground.data⟩], none⟩ from rfl] at ho
  cases ho
  obtain ⟨x, x_a, x_v⟩ := h.vals 8 (hd ⟨8, .data⟩ (by simp) rfl) (by decide)
  obtain rfl := (show x = epv from x_v)
  exact wp_yield rfl rfl (rk_iface (by kernel_rfl) x_a w) (hK _ _ (h.val 9 hl (by decide) (by decide) (Kept.refl w) rfl))
set_option maxRecDepth 20000 in
theorem ks_10 : KP w0 eb cb Q 10 := by
  intro listed a w o h ho hl hd K hK
  rw [show kops[10]? = some ⟨some 15, Op.move (Operand.tmp 3), 94, "frame.go:179", #[], none⟩ from rfl] at ho
  cases ho
  exact wp_yield rfl rfl (rk_move h.t3 w) (hK _ _ (h.val 10 hl (by decide) (by decide) (Kept.refl w) rfl))
set_option maxRecDepth 20000 in
theorem ks_11 : KP w0 eb cb Q 11 := by
  intro listed a w o h ho hl hd K hK
  rw [show kops[11]? = some ⟨some 16, Op.call { callee := Callee.value (Operand.tmp 15), args := #[Operand.const (Value.int IntKind.i64 1)], argTypes := #[3] }, 93, "frame.go:181", #[⟨10, Ground.data⟩], none⟩ from rfl] at ho
  cases ho
  obtain ⟨x, x_a, x_v⟩ := h.vals 10 (hd ⟨10, .data⟩ (by simp) rfl) (by decide)
  obtain rfl := (show x = (.func (.func 63) #[] #[]) from x_v)
  refine wp_enter rfl rfl (rk_call x_a w) ((seq_any 1 w).mono ?_)
  rintro e w' ⟨rfl, k⟩
  exact ⟨_, rfl, hK _ _ (h.val 11 hl (by decide) (by decide) k rfl)⟩
set_option maxRecDepth 20000 in
theorem ks_12 : KP w0 eb cb Q 12 := by
  intro listed a w o h ho hl hd K hK
  rw [show kops[12]? = some ⟨some 17, Op.makeInterface 93 (Operand.tmp 16), 54, "frame.go:179", #[⟨11, Ground.data⟩], none⟩ from rfl] at ho
  cases ho
  obtain ⟨x, x_a, x_v⟩ := h.vals 11 (hd ⟨11, .data⟩ (by simp) rfl) (by decide)
  obtain rfl := (show x = (sqv 1) from x_v)
  exact wp_yield rfl rfl (rk_iface (by kernel_rfl) x_a w) (hK _ _ (h.val 12 hl (by decide) (by decide) (Kept.refl w) rfl))
set_option maxRecDepth 20000 in
theorem ks_13 : KP w0 eb cb Q 13 := by
  intro listed a w o h ho hl hd K hK
  rw [show kops[13]? = some ⟨some 18, Op.build 96 #[], 96, "frame.go:179", #[], none⟩ from rfl] at ho
  cases ho
  exact wp_yield rfl rfl (rk_b96 w) (hK _ _ (h.val 13 hl (by decide) (by decide) (Kept.refl w) rfl))
set_option maxRecDepth 20000 in
theorem ks_14 : KP w0 eb cb Q 14 := by
  intro listed a w o h ho hl hd K hK
  rw [show kops[14]? = some ⟨some 19, Op.makeInterface 96 (Operand.tmp 18), 54, "frame.go:179", #[⟨13, Ground.data⟩], none⟩ from rfl] at ho
  cases ho
  obtain ⟨x, x_a, x_v⟩ := h.vals 13 (hd ⟨13, .data⟩ (by simp) rfl) (by decide)
  obtain rfl := (show x = (.agg #[]) from x_v)
  exact wp_yield rfl rfl (rk_iface (by kernel_rfl) x_a w) (hK _ _ (h.val 14 hl (by decide) (by decide) (Kept.refl w) rfl))
set_option maxRecDepth 20000 in
theorem ks_15 : KP w0 eb cb Q 15 := by
  intro listed a w o h ho hl hd K hK
  rw [show kops[15]? = some ⟨some 20, Op.buildSlice 42 3 #[(0, Operand.tmp 14), (1, Operand.tmp 17), (2, Operand.tmp 19)], 42, "frame.go:179", #[⟨9, Ground.data⟩, ⟨12, Ground.data⟩, ⟨14, Ground.data⟩], none⟩ from rfl] at ho
  cases ho
  obtain ⟨x0, x0_a, x0_v⟩ := h.vals 9 (hd ⟨9, .data⟩ (by simp) rfl) (by decide)
  obtain rfl := (show x0 = (partv .ep) from x0_v)
  obtain ⟨x1, x1_a, x1_v⟩ := h.vals 12 (hd ⟨12, .data⟩ (by simp) rfl) (by decide)
  obtain rfl := (show x1 = (partv (.sq 1)) from x1_v)
  obtain ⟨x2, x2_a, x2_v⟩ := h.vals 14 (hd ⟨14, .data⟩ (by simp) rfl) (by decide)
  obtain rfl := (show x2 = (partv .ms) from x2_v)
  exact wp_yield rfl rfl (rk_s3 x0_a x1_a x2_a w) (hK _ _ (h.val 15 hl (by decide) (by decide) ((Kept.refl w).alloc _) ⟨w.heap.size, rfl, Blk.made w _ _⟩))
set_option maxRecDepth 20000 in
theorem ks_16 : KP w0 eb cb Q 16 := by
  intro listed a w o h ho hl hd K hK
  rw [show kops[16]? = some ⟨some 21, Op.build 44 #[(0, Operand.const (Value.string ⟨#[119, 101, 108, 99, 111, 109, 101]⟩)), (1, Operand.tmp 20)], 44, "frame.go:179", #[⟨15, Ground.data⟩], none⟩ from rfl] at ho
  cases ho
  obtain ⟨x, x_a, x_v⟩ := h.vals 15 (hd ⟨15, .data⟩ (by simp) rfl) (by decide)
  obtain ⟨b, rfl, hb⟩ := (show KS w 1 x from x_v)
  exact wp_yield rfl rfl (rk_bk x_a w) (hK _ _ (h.val 16 hl (by decide) (by decide) (Kept.refl w) ⟨b, rfl, hb⟩))
set_option maxRecDepth 20000 in
theorem ks_17 : KP w0 eb cb Q 17 := by
  intro listed a w o h ho hl hd K hK
  rw [show kops[17]? = some ⟨none, Op.insert 64 (Operand.tmp 6) (Operand.const (Value.int IntKind.i64 2)) (Operand.tmp 21), 0, "frame.go:179", #[⟨0, Ground.data⟩, ⟨16, Ground.data⟩], none⟩ from rfl] at ho
  cases ho
  obtain ⟨x, x_a, x_v⟩ := h.vals 16 (hd ⟨16, .data⟩ (by simp) rfl) (by decide)
  obtain ⟨m, es, c, q1, q2, q3, q4⟩ := h.ins 1 (by decide) hl (hd ⟨0, .data⟩ (by simp) rfl) (show KV w 1 x from x_v)
  exact wp_skips rfl rfl (rk_ins q1 x_a w q2 q3) (hK _ _ q4)
set_option maxRecDepth 20000 in
theorem ks_18 : KP w0 eb cb Q 18 := by
  intro listed a w o h ho hl hd K hK
  rw [show kops[18]? = some ⟨some 22, Op.load 93 (Operand.tmp 1), 93, "frame.go:179", #[], none⟩ from rfl] at ho
  cases ho
  exact wp_yield rfl rfl (rk_load h.t1 w h.e0) (hK _ _ (h.val 18 hl (by decide) (by decide) (Kept.refl w) rfl))
set_option maxRecDepth 20000 in
theorem ks_19 : KP w0 eb cb Q 19 := by
  intro listed a w o h ho hl hd K hK
  rw [show kops[19]? = some ⟨some 23, Op.makeInterface 93 (Operand.tmp 22), 54, "frame.go:179", #[⟨18, Ground.data⟩], none⟩ from rfl] at ho
  cases ho
  obtain ⟨x, x_a, x_v⟩ := h.vals 18 (hd ⟨18, .data⟩ (by simp) rfl) (by decide)
  obtain rfl := (show x = epv from x_v)
  exact wp_yield rfl rfl (rk_iface (by kernel_rfl) x_a w) (hK _ _ (h.val 19 hl (by decide) (by decide) (Kept.refl w) rfl))
set_option maxRecDepth 20000 in
theorem ks_20 : KP w0 eb cb Q 20 := by
  intro listed a w o h ho hl hd K hK
  rw [show kops[20]? = some ⟨some 24, Op.move (Operand.tmp 3), 94, "frame.go:179", #[], none⟩ from rfl] at ho
  cases ho
  exact wp_yield rfl rfl (rk_move h.t3 w) (hK _ _ (h.val 20 hl (by decide) (by decide) (Kept.refl w) rfl))
set_option maxRecDepth 20000 in
theorem ks_21 : KP w0 eb cb Q 21 := by
  intro listed a w o h ho hl hd K hK
  rw [show kops[21]? = some ⟨some 25, Op.call { callee := Callee.value (Operand.tmp 24), args := #[Operand.const (Value.int IntKind.i64 1)], argTypes := #[3] }, 93, "frame.go:182", #[⟨20, Ground.data⟩, ⟨11, Ground.chain⟩], none⟩ from rfl] at ho
  cases ho
  obtain ⟨x, x_a, x_v⟩ := h.vals 20 (hd ⟨20, .data⟩ (by simp) rfl) (by decide)
  obtain rfl := (show x = (.func (.func 63) #[] #[]) from x_v)
  refine wp_enter rfl rfl (rk_call x_a w) ((seq_any 1 w).mono ?_)
  rintro e w' ⟨rfl, k⟩
  exact ⟨_, rfl, hK _ _ (h.val 21 hl (by decide) (by decide) k rfl)⟩
set_option maxRecDepth 20000 in
theorem ks_22 : KP w0 eb cb Q 22 := by
  intro listed a w o h ho hl hd K hK
  rw [show kops[22]? = some ⟨some 26, Op.makeInterface 93 (Operand.tmp 25), 54, "frame.go:179", #[⟨21, Ground.data⟩], none⟩ from rfl] at ho
  cases ho
  obtain ⟨x, x_a, x_v⟩ := h.vals 21 (hd ⟨21, .data⟩ (by simp) rfl) (by decide)
  obtain rfl := (show x = (sqv 1) from x_v)
  exact wp_yield rfl rfl (rk_iface (by kernel_rfl) x_a w) (hK _ _ (h.val 22 hl (by decide) (by decide) (Kept.refl w) rfl))
set_option maxRecDepth 20000 in
theorem ks_23 : KP w0 eb cb Q 23 := by
  intro listed a w o h ho hl hd K hK
  rw [show kops[23]? = some ⟨some 27, Op.build 97 #[], 97, "frame.go:179", #[], none⟩ from rfl] at ho
  cases ho
  exact wp_yield rfl rfl (rk_b97 w) (hK _ _ (h.val 23 hl (by decide) (by decide) (Kept.refl w) rfl))
set_option maxRecDepth 20000 in
theorem ks_24 : KP w0 eb cb Q 24 := by
  intro listed a w o h ho hl hd K hK
  rw [show kops[24]? = some ⟨some 28, Op.makeInterface 97 (Operand.tmp 27), 54, "frame.go:179", #[⟨23, Ground.data⟩], none⟩ from rfl] at ho
  cases ho
  obtain ⟨x, x_a, x_v⟩ := h.vals 23 (hd ⟨23, .data⟩ (by simp) rfl) (by decide)
  obtain rfl := (show x = (.agg #[]) from x_v)
  exact wp_yield rfl rfl (rk_iface (by kernel_rfl) x_a w) (hK _ _ (h.val 24 hl (by decide) (by decide) (Kept.refl w) rfl))
set_option maxRecDepth 20000 in
theorem ks_25 : KP w0 eb cb Q 25 := by
  intro listed a w o h ho hl hd K hK
  rw [show kops[25]? = some ⟨some 29, Op.buildSlice 42 3 #[(0, Operand.tmp 23), (1, Operand.tmp 26), (2, Operand.tmp 28)], 42, "frame.go:179", #[⟨19, Ground.data⟩, ⟨22, Ground.data⟩, ⟨24, Ground.data⟩], none⟩ from rfl] at ho
  cases ho
  obtain ⟨x0, x0_a, x0_v⟩ := h.vals 19 (hd ⟨19, .data⟩ (by simp) rfl) (by decide)
  obtain rfl := (show x0 = (partv .ep) from x0_v)
  obtain ⟨x1, x1_a, x1_v⟩ := h.vals 22 (hd ⟨22, .data⟩ (by simp) rfl) (by decide)
  obtain rfl := (show x1 = (partv (.sq 1)) from x1_v)
  obtain ⟨x2, x2_a, x2_v⟩ := h.vals 24 (hd ⟨24, .data⟩ (by simp) rfl) (by decide)
  obtain rfl := (show x2 = (partv .ev) from x2_v)
  exact wp_yield rfl rfl (rk_s3 x0_a x1_a x2_a w) (hK _ _ (h.val 25 hl (by decide) (by decide) ((Kept.refl w).alloc _) ⟨w.heap.size, rfl, Blk.made w _ _⟩))
set_option maxRecDepth 20000 in
theorem ks_26 : KP w0 eb cb Q 26 := by
  intro listed a w o h ho hl hd K hK
  rw [show kops[26]? = some ⟨some 30, Op.build 44 #[(0, Operand.const (Value.string ⟨#[100, 97, 116, 97]⟩)), (1, Operand.tmp 29)], 44, "frame.go:179", #[⟨25, Ground.data⟩], none⟩ from rfl] at ho
  cases ho
  obtain ⟨x, x_a, x_v⟩ := h.vals 25 (hd ⟨25, .data⟩ (by simp) rfl) (by decide)
  obtain ⟨b, rfl, hb⟩ := (show KS w 2 x from x_v)
  exact wp_yield rfl rfl (rk_bk x_a w) (hK _ _ (h.val 26 hl (by decide) (by decide) (Kept.refl w) ⟨b, rfl, hb⟩))
set_option maxRecDepth 20000 in
theorem ks_27 : KP w0 eb cb Q 27 := by
  intro listed a w o h ho hl hd K hK
  rw [show kops[27]? = some ⟨none, Op.insert 64 (Operand.tmp 6) (Operand.const (Value.int IntKind.i64 3)) (Operand.tmp 30), 0, "frame.go:179", #[⟨0, Ground.data⟩, ⟨26, Ground.data⟩], none⟩ from rfl] at ho
  cases ho
  obtain ⟨x, x_a, x_v⟩ := h.vals 26 (hd ⟨26, .data⟩ (by simp) rfl) (by decide)
  obtain ⟨m, es, c, q1, q2, q3, q4⟩ := h.ins 2 (by decide) hl (hd ⟨0, .data⟩ (by simp) rfl) (show KV w 2 x from x_v)
  exact wp_skips rfl rfl (rk_ins q1 x_a w q2 q3) (hK _ _ q4)
set_option maxRecDepth 20000 in
theorem ks_28 : KP w0 eb cb Q 28 := by
  intro listed a w o h ho hl hd K hK
  rw [show kops[28]? = some ⟨some 31, Op.load 93 (Operand.tmp 1), 93, "frame.go:179", #[], none⟩ from rfl] at ho
  cases ho
  exact wp_yield rfl rfl (rk_load h.t1 w h.e0) (hK _ _ (h.val 28 hl (by decide) (by decide) (Kept.refl w) rfl))
set_option maxRecDepth 20000 in
theorem ks_29 : KP w0 eb cb Q 29 := by
  intro listed a w o h ho hl hd K hK
  rw [show kops[29]? = some ⟨some 32, Op.makeInterface 93 (Operand.tmp 31), 54, "frame.go:179", #[⟨28, Ground.data⟩], none⟩ from rfl] at ho
  cases ho
  obtain ⟨x, x_a, x_v⟩ := h.vals 28 (hd ⟨28, .data⟩ (by simp) rfl) (by decide)
  obtain rfl := (show x = epv from x_v)
  exact wp_yield rfl rfl (rk_iface (by kernel_rfl) x_a w) (hK _ _ (h.val 29 hl (by decide) (by decide) (Kept.refl w) rfl))
set_option maxRecDepth 20000 in
theorem ks_30 : KP w0 eb cb Q 30 := by
  intro listed a w o h ho hl hd K hK
  rw [show kops[30]? = some ⟨some 33, Op.move (Operand.tmp 3), 94, "frame.go:179", #[], none⟩ from rfl] at ho
  cases ho
  exact wp_yield rfl rfl (rk_move h.t3 w) (hK _ _ (h.val 30 hl (by decide) (by decide) (Kept.refl w) rfl))
set_option maxRecDepth 20000 in
theorem ks_31 : KP w0 eb cb Q 31 := by
  intro listed a w o h ho hl hd K hK
  rw [show kops[31]? = some ⟨some 34, Op.call { callee := Callee.value (Operand.tmp 33), args := #[Operand.const (Value.int IntKind.i64 0)], argTypes := #[3] }, 93, "frame.go:183", #[⟨30, Ground.data⟩, ⟨21, Ground.chain⟩], none⟩ from rfl] at ho
  cases ho
  obtain ⟨x, x_a, x_v⟩ := h.vals 30 (hd ⟨30, .data⟩ (by simp) rfl) (by decide)
  obtain rfl := (show x = (.func (.func 63) #[] #[]) from x_v)
  refine wp_enter rfl rfl (rk_call x_a w) ((seq_any 0 w).mono ?_)
  rintro e w' ⟨rfl, k⟩
  exact ⟨_, rfl, hK _ _ (h.val 31 hl (by decide) (by decide) k rfl)⟩
set_option maxRecDepth 20000 in
theorem ks_32 : KP w0 eb cb Q 32 := by
  intro listed a w o h ho hl hd K hK
  rw [show kops[32]? = some ⟨some 35, Op.makeInterface 93 (Operand.tmp 34), 54, "frame.go:179", #[⟨31, Ground.data⟩], none⟩ from rfl] at ho
  cases ho
  obtain ⟨x, x_a, x_v⟩ := h.vals 31 (hd ⟨31, .data⟩ (by simp) rfl) (by decide)
  obtain rfl := (show x = (sqv 0) from x_v)
  exact wp_yield rfl rfl (rk_iface (by kernel_rfl) x_a w) (hK _ _ (h.val 32 hl (by decide) (by decide) (Kept.refl w) rfl))
set_option maxRecDepth 20000 in
theorem ks_33 : KP w0 eb cb Q 33 := by
  intro listed a w o h ho hl hd K hK
  rw [show kops[33]? = some ⟨some 36, Op.load 93 (Operand.tmp 2), 93, "frame.go:179", #[], none⟩ from rfl] at ho
  cases ho
  exact wp_yield rfl rfl (rk_load h.t2 w h.c0) (hK _ _ (h.val 33 hl (by decide) (by decide) (Kept.refl w) rfl))
set_option maxRecDepth 20000 in
theorem ks_34 : KP w0 eb cb Q 34 := by
  intro listed a w o h ho hl hd K hK
  rw [show kops[34]? = some ⟨some 37, Op.makeInterface 93 (Operand.tmp 36), 54, "frame.go:179", #[⟨33, Ground.data⟩], none⟩ from rfl] at ho
  cases ho
  obtain ⟨x, x_a, x_v⟩ := h.vals 33 (hd ⟨33, .data⟩ (by simp) rfl) (by decide)
  obtain rfl := (show x = crv from x_v)
  exact wp_yield rfl rfl (rk_iface (by kernel_rfl) x_a w) (hK _ _ (h.val 34 hl (by decide) (by decide) (Kept.refl w) rfl))
set_option maxRecDepth 20000 in
theorem ks_35 : KP w0 eb cb Q 35 := by
  intro listed a w o h ho hl hd K hK
  rw [show kops[35]? = some ⟨some 38, Op.buildSlice 42 3 #[(0, Operand.tmp 32), (1, Operand.tmp 35), (2, Operand.tmp 37)], 42, "frame.go:179", #[⟨29, Ground.data⟩, ⟨32, Ground.data⟩, ⟨34, Ground.data⟩], none⟩ from rfl] at ho
  cases ho
  obtain ⟨x0, x0_a, x0_v⟩ := h.vals 29 (hd ⟨29, .data⟩ (by simp) rfl) (by decide)
  obtain rfl := (show x0 = (partv .ep) from x0_v)
  obtain ⟨x1, x1_a, x1_v⟩ := h.vals 32 (hd ⟨32, .data⟩ (by simp) rfl) (by decide)
  obtain rfl := (show x1 = (partv (.sq 0)) from x1_v)
  obtain ⟨x2, x2_a, x2_v⟩ := h.vals 34 (hd ⟨34, .data⟩ (by simp) rfl) (by decide)
  obtain rfl := (show x2 = (partv .cr) from x2_v)
  exact wp_yield rfl rfl (rk_s3 x0_a x1_a x2_a w) (hK _ _ (h.val 35 hl (by decide) (by decide) ((Kept.refl w).alloc _) ⟨w.heap.size, rfl, Blk.made w _ _⟩))
set_option maxRecDepth 20000 in
theorem ks_36 : KP w0 eb cb Q 36 := by
  intro listed a w o h ho hl hd K hK
  rw [show kops[36]? = some ⟨some 39, Op.build 44 #[(0, Operand.const (Value.string ⟨#[97, 99, 107]⟩)), (1, Operand.tmp 38)], 44, "frame.go:179", #[⟨35, Ground.data⟩], none⟩ from rfl] at ho
  cases ho
  obtain ⟨x, x_a, x_v⟩ := h.vals 35 (hd ⟨35, .data⟩ (by simp) rfl) (by decide)
  obtain ⟨b, rfl, hb⟩ := (show KS w 3 x from x_v)
  exact wp_yield rfl rfl (rk_bk x_a w) (hK _ _ (h.val 36 hl (by decide) (by decide) (Kept.refl w) ⟨b, rfl, hb⟩))
set_option maxRecDepth 20000 in
theorem ks_37 : KP w0 eb cb Q 37 := by
  intro listed a w o h ho hl hd K hK
  rw [show kops[37]? = some ⟨none, Op.insert 64 (Operand.tmp 6) (Operand.const (Value.int IntKind.i64 4)) (Operand.tmp 39), 0, "frame.go:179", #[⟨0, Ground.data⟩, ⟨36, Ground.data⟩], none⟩ from rfl] at ho
  cases ho
  obtain ⟨x, x_a, x_v⟩ := h.vals 36 (hd ⟨36, .data⟩ (by simp) rfl) (by decide)
  obtain ⟨m, es, c, q1, q2, q3, q4⟩ := h.ins 3 (by decide) hl (hd ⟨0, .data⟩ (by simp) rfl) (show KV w 3 x from x_v)
  exact wp_skips rfl rfl (rk_ins q1 x_a w q2 q3) (hK _ _ q4)
set_option maxRecDepth 20000 in
theorem ks_38 : KP w0 eb cb Q 38 := by
  intro listed a w o h ho hl hd K hK
  rw [show kops[38]? = some ⟨some 40, Op.load 93 (Operand.tmp 1), 93, "frame.go:179", #[], none⟩ from rfl] at ho
  cases ho
  exact wp_yield rfl rfl (rk_load h.t1 w h.e0) (hK _ _ (h.val 38 hl (by decide) (by decide) (Kept.refl w) rfl))
set_option maxRecDepth 20000 in
theorem ks_39 : KP w0 eb cb Q 39 := by
  intro listed a w o h ho hl hd K hK
  rw [show kops[39]? = some ⟨some 41, Op.makeInterface 93 (Operand.tmp 40), 54, "frame.go:179", #[⟨38, Ground.data⟩], none⟩ from rfl] at ho
  cases ho
  obtain ⟨x, x_a, x_v⟩ := h.vals 38 (hd ⟨38, .data⟩ (by simp) rfl) (by decide)
  obtain rfl := (show x = epv from x_v)
  exact wp_yield rfl rfl (rk_iface (by kernel_rfl) x_a w) (hK _ _ (h.val 39 hl (by decide) (by decide) (Kept.refl w) rfl))
set_option maxRecDepth 20000 in
theorem ks_40 : KP w0 eb cb Q 40 := by
  intro listed a w o h ho hl hd K hK
  rw [show kops[40]? = some ⟨some 42, Op.buildSlice 42 1 #[(0, Operand.tmp 41)], 42, "frame.go:179", #[⟨39, Ground.data⟩], none⟩ from rfl] at ho
  cases ho
  obtain ⟨x0, x0_a, x0_v⟩ := h.vals 39 (hd ⟨39, .data⟩ (by simp) rfl) (by decide)
  obtain rfl := (show x0 = (partv .ep) from x0_v)
  exact wp_yield rfl rfl (rk_s1 x0_a w) (hK _ _ (h.val 40 hl (by decide) (by decide) ((Kept.refl w).alloc _) ⟨w.heap.size, rfl, Blk.made w _ _⟩))
set_option maxRecDepth 20000 in
theorem ks_41 : KP w0 eb cb Q 41 := by
  intro listed a w o h ho hl hd K hK
  rw [show kops[41]? = some ⟨some 43, Op.build 44 #[(0, Operand.const (Value.string ⟨#[98, 101, 97, 116]⟩)), (1, Operand.tmp 42)], 44, "frame.go:179", #[⟨40, Ground.data⟩], none⟩ from rfl] at ho
  cases ho
  obtain ⟨x, x_a, x_v⟩ := h.vals 40 (hd ⟨40, .data⟩ (by simp) rfl) (by decide)
  obtain ⟨b, rfl, hb⟩ := (show KS w 4 x from x_v)
  exact wp_yield rfl rfl (rk_bk x_a w) (hK _ _ (h.val 41 hl (by decide) (by decide) (Kept.refl w) ⟨b, rfl, hb⟩))
set_option maxRecDepth 20000 in
theorem ks_42 : KP w0 eb cb Q 42 := by
  intro listed a w o h ho hl hd K hK
  rw [show kops[42]? = some ⟨none, Op.insert 64 (Operand.tmp 6) (Operand.const (Value.int IntKind.i64 5)) (Operand.tmp 43), 0, "frame.go:179", #[⟨0, Ground.data⟩, ⟨41, Ground.data⟩], none⟩ from rfl] at ho
  cases ho
  obtain ⟨x, x_a, x_v⟩ := h.vals 41 (hd ⟨41, .data⟩ (by simp) rfl) (by decide)
  obtain ⟨m, es, c, q1, q2, q3, q4⟩ := h.ins 4 (by decide) hl (hd ⟨0, .data⟩ (by simp) rfl) (show KV w 4 x from x_v)
  exact wp_skips rfl rfl (rk_ins q1 x_a w q2 q3) (hK _ _ q4)
set_option maxRecDepth 20000 in
theorem ks_43 : KP w0 eb cb Q 43 := by
  intro listed a w o h ho hl hd K hK
  rw [show kops[43]? = some ⟨some 44, Op.load 93 (Operand.tmp 1), 93, "frame.go:179", #[], none⟩ from rfl] at ho
  cases ho
  exact wp_yield rfl rfl (rk_load h.t1 w h.e0) (hK _ _ (h.val 43 hl (by decide) (by decide) (Kept.refl w) rfl))
set_option maxRecDepth 20000 in
theorem ks_44 : KP w0 eb cb Q 44 := by
  intro listed a w o h ho hl hd K hK
  rw [show kops[44]? = some ⟨some 45, Op.makeInterface 93 (Operand.tmp 44), 54, "frame.go:179", #[⟨43, Ground.data⟩], none⟩ from rfl] at ho
  cases ho
  obtain ⟨x, x_a, x_v⟩ := h.vals 43 (hd ⟨43, .data⟩ (by simp) rfl) (by decide)
  obtain rfl := (show x = epv from x_v)
  exact wp_yield rfl rfl (rk_iface (by kernel_rfl) x_a w) (hK _ _ (h.val 44 hl (by decide) (by decide) (Kept.refl w) rfl))
set_option maxRecDepth 20000 in
theorem ks_45 : KP w0 eb cb Q 45 := by
  intro listed a w o h ho hl hd K hK
  rw [show kops[45]? = some ⟨some 46, Op.build 98 #[], 98, "frame.go:179", #[], none⟩ from rfl] at ho
  cases ho
  exact wp_yield rfl rfl (rk_b98 w) (hK _ _ (h.val 45 hl (by decide) (by decide) (Kept.refl w) rfl))
set_option maxRecDepth 20000 in
theorem ks_46 : KP w0 eb cb Q 46 := by
  intro listed a w o h ho hl hd K hK
  rw [show kops[46]? = some ⟨some 47, Op.makeInterface 98 (Operand.tmp 46), 54, "frame.go:179", #[⟨45, Ground.data⟩], none⟩ from rfl] at ho
  cases ho
  obtain ⟨x, x_a, x_v⟩ := h.vals 45 (hd ⟨45, .data⟩ (by simp) rfl) (by decide)
  obtain rfl := (show x = (.agg #[]) from x_v)
  exact wp_yield rfl rfl (rk_iface (by kernel_rfl) x_a w) (hK _ _ (h.val 46 hl (by decide) (by decide) (Kept.refl w) rfl))
set_option maxRecDepth 20000 in
theorem ks_47 : KP w0 eb cb Q 47 := by
  intro listed a w o h ho hl hd K hK
  rw [show kops[47]? = some ⟨some 48, Op.build 99 #[], 99, "frame.go:179", #[], none⟩ from rfl] at ho
  cases ho
  exact wp_yield rfl rfl (rk_b99 w) (hK _ _ (h.val 47 hl (by decide) (by decide) (Kept.refl w) rfl))
set_option maxRecDepth 20000 in
theorem ks_48 : KP w0 eb cb Q 48 := by
  intro listed a w o h ho hl hd K hK
  rw [show kops[48]? = some ⟨some 49, Op.makeInterface 99 (Operand.tmp 48), 54, "frame.go:179", #[⟨47, Ground.data⟩], none⟩ from rfl] at ho
  cases ho
  obtain ⟨x, x_a, x_v⟩ := h.vals 47 (hd ⟨47, .data⟩ (by simp) rfl) (by decide)
  obtain rfl := (show x = (.agg #[]) from x_v)
  exact wp_yield rfl rfl (rk_iface (by kernel_rfl) x_a w) (hK _ _ (h.val 48 hl (by decide) (by decide) (Kept.refl w) rfl))
set_option maxRecDepth 20000 in
theorem ks_49 : KP w0 eb cb Q 49 := by
  intro listed a w o h ho hl hd K hK
  rw [show kops[49]? = some ⟨some 50, Op.buildSlice 42 3 #[(0, Operand.tmp 45), (1, Operand.tmp 47), (2, Operand.tmp 49)], 42, "frame.go:179", #[⟨44, Ground.data⟩, ⟨46, Ground.data⟩, ⟨48, Ground.data⟩], none⟩ from rfl] at ho
  cases ho
  obtain ⟨x0, x0_a, x0_v⟩ := h.vals 44 (hd ⟨44, .data⟩ (by simp) rfl) (by decide)
  obtain rfl := (show x0 = (partv .ep) from x0_v)
  obtain ⟨x1, x1_a, x1_v⟩ := h.vals 46 (hd ⟨46, .data⟩ (by simp) rfl) (by decide)
  obtain rfl := (show x1 = (partv .on) from x1_v)
  obtain ⟨x2, x2_a, x2_v⟩ := h.vals 48 (hd ⟨48, .data⟩ (by simp) rfl) (by decide)
  obtain rfl := (show x2 = (partv .fl) from x2_v)
  exact wp_yield rfl rfl (rk_s3 x0_a x1_a x2_a w) (hK _ _ (h.val 49 hl (by decide) (by decide) ((Kept.refl w).alloc _) ⟨w.heap.size, rfl, Blk.made w _ _⟩))
set_option maxRecDepth 20000 in
theorem ks_50 : KP w0 eb cb Q 50 := by
  intro listed a w o h ho hl hd K hK
  rw [show kops[50]? = some ⟨some 51, Op.build 44 #[(0, Operand.const (Value.string ⟨#[119, 97, 110, 116]⟩)), (1, Operand.tmp 50)], 44, "frame.go:179", #[⟨49, Ground.data⟩], none⟩ from rfl] at ho
  cases ho
  obtain ⟨x, x_a, x_v⟩ := h.vals 49 (hd ⟨49, .data⟩ (by simp) rfl) (by decide)
  obtain ⟨b, rfl, hb⟩ := (show KS w 5 x from x_v)
  exact wp_yield rfl rfl (rk_bk x_a w) (hK _ _ (h.val 50 hl (by decide) (by decide) (Kept.refl w) ⟨b, rfl, hb⟩))
set_option maxRecDepth 20000 in
theorem ks_51 : KP w0 eb cb Q 51 := by
  intro listed a w o h ho hl hd K hK
  rw [show kops[51]? = some ⟨none, Op.insert 64 (Operand.tmp 6) (Operand.const (Value.int IntKind.i64 6)) (Operand.tmp 51), 0, "frame.go:179", #[⟨0, Ground.data⟩, ⟨50, Ground.data⟩], none⟩ from rfl] at ho
  cases ho
  obtain ⟨x, x_a, x_v⟩ := h.vals 50 (hd ⟨50, .data⟩ (by simp) rfl) (by decide)
  obtain ⟨m, es, c, q1, q2, q3, q4⟩ := h.ins 5 (by decide) hl (hd ⟨0, .data⟩ (by simp) rfl) (show KV w 5 x from x_v)
  exact wp_skips rfl rfl (rk_ins q1 x_a w q2 q3) (hK _ _ q4)
set_option maxRecDepth 20000 in
theorem ks_52 : KP w0 eb cb Q 52 := by
  intro listed a w o h ho hl hd K hK
  rw [show kops[52]? = some ⟨some 52, Op.move (Operand.tmp 6), 64, "frame.go:179", #[⟨0, Ground.data⟩, ⟨1, Ground.data⟩, ⟨2, Ground.data⟩, ⟨3, Ground.data⟩, ⟨4, Ground.data⟩, ⟨5, Ground.data⟩, ⟨6, Ground.data⟩, ⟨7, Ground.data⟩, ⟨8, Ground.data⟩, ⟨9, Ground.data⟩, ⟨10, Ground.data⟩, ⟨11, Ground.data⟩, ⟨12, Ground.data⟩, ⟨13, Ground.data⟩, ⟨14, Ground.data⟩, ⟨15, Ground.data⟩, ⟨16, Ground.data⟩, ⟨17, Ground.data⟩, ⟨18, Ground.data⟩, ⟨19, Ground.data⟩, ⟨20, Ground.data⟩, ⟨21, Ground.data⟩, ⟨22, Ground.data⟩, ⟨23, Ground.data⟩, ⟨24, Ground.data⟩, ⟨25, Ground.data⟩, ⟨26, Ground.data⟩, ⟨27, Ground.data⟩, ⟨28, Ground.data⟩, ⟨29, Ground.data⟩, ⟨30, Ground.data⟩, ⟨31, Ground.data⟩, ⟨32, Ground.data⟩, ⟨33, Ground.data⟩, ⟨34, Ground.data⟩, ⟨35, Ground.data⟩, ⟨36, Ground.data⟩, ⟨37, Ground.data⟩, ⟨38, Ground.data⟩, ⟨39, Ground.data⟩, ⟨40, Ground.data⟩, ⟨41, Ground.data⟩, ⟨42, Ground.data⟩, ⟨43, Ground.data⟩, ⟨44, Ground.data⟩, ⟨45, Ground.data⟩, ⟨46, Ground.data⟩, ⟨47, Ground.data⟩, ⟨48, Ground.data⟩, ⟨49, Ground.data⟩, ⟨50, Ground.data⟩, ⟨51, Ground.data⟩], none⟩ from rfl] at ho
  cases ho
  obtain ⟨m, es, c, q1, q2, q3, q4, q5⟩ := h.map (hd ⟨0, .data⟩ (by simp) rfl)
  have hw : KWh w (.map (some m)) := ⟨m, rfl, es, c, q2, fun e he => let ⟨j, b1, b2, _, b4⟩ := q4 e he; ⟨j, b1, b2, b4⟩, fun j hj => q5 j hj ?_⟩
  · exact wp_yield rfl rfl (rk_move q1 w) (hK _ _ (h.val 52 hl (by decide) (by decide) (Kept.refl w) hw))
  · match j, hj with
    | 0, _ => exact hd ⟨7, .data⟩ (by simp) rfl
    | 1, _ => exact hd ⟨17, .data⟩ (by simp) rfl
    | 2, _ => exact hd ⟨27, .data⟩ (by simp) rfl
    | 3, _ => exact hd ⟨37, .data⟩ (by simp) rfl
    | 4, _ => exact hd ⟨42, .data⟩ (by simp) rfl
    | 5, _ => exact hd ⟨51, .data⟩ (by simp) rfl
set_option maxRecDepth 20000 in
theorem ks_53 : KP w0 eb cb Q 53 := by
  intro listed a w o h ho hl hd K hK
  rw [show kops[53]? = some ⟨some 0, Op.assign (Operand.tmp 52), 64, "frame.go:179", #[⟨52, Ground.data⟩, ⟨31, Ground.chain⟩, ⟨0, Ground.phase⟩, ⟨1, Ground.phase⟩, ⟨2, Ground.phase⟩, ⟨3, Ground.phase⟩, ⟨4, Ground.phase⟩, ⟨5, Ground.phase⟩, ⟨6, Ground.phase⟩, ⟨7, Ground.phase⟩, ⟨8, Ground.phase⟩, ⟨9, Ground.phase⟩, ⟨10, Ground.phase⟩, ⟨11, Ground.phase⟩, ⟨12, Ground.phase⟩, ⟨13, Ground.phase⟩, ⟨14, Ground.phase⟩, ⟨15, Ground.phase⟩, ⟨16, Ground.phase⟩, ⟨17, Ground.phase⟩, ⟨18, Ground.phase⟩, ⟨19, Ground.phase⟩, ⟨20, Ground.phase⟩, ⟨21, Ground.phase⟩, ⟨22, Ground.phase⟩, ⟨23, Ground.phase⟩, ⟨24, Ground.phase⟩, ⟨25, Ground.phase⟩, ⟨26, Ground.phase⟩, ⟨27, Ground.phase⟩, ⟨28, Ground.phase⟩, ⟨29, Ground.phase⟩, ⟨30, Ground.phase⟩, ⟨31, Ground.phase⟩, ⟨32, Ground.phase⟩, ⟨33, Ground.phase⟩, ⟨34, Ground.phase⟩, ⟨35, Ground.phase⟩, ⟨36, Ground.phase⟩, ⟨37, Ground.phase⟩, ⟨38, Ground.phase⟩, ⟨39, Ground.phase⟩, ⟨40, Ground.phase⟩, ⟨41, Ground.phase⟩, ⟨42, Ground.phase⟩, ⟨43, Ground.phase⟩, ⟨44, Ground.phase⟩, ⟨45, Ground.phase⟩, ⟨46, Ground.phase⟩, ⟨47, Ground.phase⟩, ⟨48, Ground.phase⟩, ⟨49, Ground.phase⟩, ⟨50, Ground.phase⟩, ⟨51, Ground.phase⟩, ⟨52, Ground.phase⟩], none⟩ from rfl] at ho
  cases ho
  obtain ⟨x, x_a, x_v⟩ := h.vals 52 (hd ⟨52, .data⟩ (by simp) rfl) (by decide)
  exact wp_yield rfl rfl (rk_asg x_a w) (hK _ _ (h.val 53 hl (by decide) (by decide) (Kept.refl w) x_v))
theorem lt_all {P : Nat → Prop} (n : Nat) (h : (∀ i, i < n → P i) ∧ P n) : ∀ i, i < n + 1 → P i := fun i hi => by
  rcases Nat.lt_or_ge i n with h' | h'
  · exact h.1 i h'
  · obtain rfl : i = n := by omega
    exact h.2
theorem ks_all : ∀ i, i < 54 → KP w0 eb cb Q i := by
  refine lt_all 53 ⟨?_, ks_53⟩
  refine lt_all 52 ⟨?_, ks_52⟩
  refine lt_all 51 ⟨?_, ks_51⟩
  refine lt_all 50 ⟨?_, ks_50⟩
  refine lt_all 49 ⟨?_, ks_49⟩
  refine lt_all 48 ⟨?_, ks_48⟩
  refine lt_all 47 ⟨?_, ks_47⟩
  refine lt_all 46 ⟨?_, ks_46⟩
  refine lt_all 45 ⟨?_, ks_45⟩
  refine lt_all 44 ⟨?_, ks_44⟩
  refine lt_all 43 ⟨?_, ks_43⟩
  refine lt_all 42 ⟨?_, ks_42⟩
  refine lt_all 41 ⟨?_, ks_41⟩
  refine lt_all 40 ⟨?_, ks_40⟩
  refine lt_all 39 ⟨?_, ks_39⟩
  refine lt_all 38 ⟨?_, ks_38⟩
  refine lt_all 37 ⟨?_, ks_37⟩
  refine lt_all 36 ⟨?_, ks_36⟩
  refine lt_all 35 ⟨?_, ks_35⟩
  refine lt_all 34 ⟨?_, ks_34⟩
  refine lt_all 33 ⟨?_, ks_33⟩
  refine lt_all 32 ⟨?_, ks_32⟩
  refine lt_all 31 ⟨?_, ks_31⟩
  refine lt_all 30 ⟨?_, ks_30⟩
  refine lt_all 29 ⟨?_, ks_29⟩
  refine lt_all 28 ⟨?_, ks_28⟩
  refine lt_all 27 ⟨?_, ks_27⟩
  refine lt_all 26 ⟨?_, ks_26⟩
  refine lt_all 25 ⟨?_, ks_25⟩
  refine lt_all 24 ⟨?_, ks_24⟩
  refine lt_all 23 ⟨?_, ks_23⟩
  refine lt_all 22 ⟨?_, ks_22⟩
  refine lt_all 21 ⟨?_, ks_21⟩
  refine lt_all 20 ⟨?_, ks_20⟩
  refine lt_all 19 ⟨?_, ks_19⟩
  refine lt_all 18 ⟨?_, ks_18⟩
  refine lt_all 17 ⟨?_, ks_17⟩
  refine lt_all 16 ⟨?_, ks_16⟩
  refine lt_all 15 ⟨?_, ks_15⟩
  refine lt_all 14 ⟨?_, ks_14⟩
  refine lt_all 13 ⟨?_, ks_13⟩
  refine lt_all 12 ⟨?_, ks_12⟩
  refine lt_all 11 ⟨?_, ks_11⟩
  refine lt_all 10 ⟨?_, ks_10⟩
  refine lt_all 9 ⟨?_, ks_9⟩
  refine lt_all 8 ⟨?_, ks_8⟩
  refine lt_all 7 ⟨?_, ks_7⟩
  refine lt_all 6 ⟨?_, ks_6⟩
  refine lt_all 5 ⟨?_, ks_5⟩
  refine lt_all 4 ⟨?_, ks_4⟩
  refine lt_all 3 ⟨?_, ks_3⟩
  refine lt_all 2 ⟨?_, ks_2⟩
  refine lt_all 1 ⟨?_, ks_1⟩
  refine lt_all 0 ⟨?_, ks_0⟩
  exact fun i hi => absurd hi (Nat.not_lt_zero i)
end
set_option maxRecDepth 20000 in
theorem kedge : ∀ (i : Nat) (o : Oper), kops[i]? = some o → ∀ e ∈ o.after, e.on < i := by
  have h : (kops.toList.zipIdx.all fun p => p.1.after.toList.all fun e => e.on < p.2) = true := by decide +kernel
  intro i o ho e he
  rw [List.all_eq_true] at h
  have h1 := h (o, i) (by rw [List.mk_mem_zipIdx_iff_getElem?]; simpa using ho)
  rw [List.all_eq_true] at h1
  simpa using h1 e (by simpa using he)

theorem ret_map (tmps : Array Value) (W : World) (v : Value) (h : tmps[0]? = some v) : (results Tryz.f40 tmps).run Tryz.prog W = .ok v W := by
  simp [results, Tryz.f40, go_sem, h]
theorem no_listed (i : Nat) : ¬ (Array.replicate kops.size false)[i]? = some true := by
  rw [Array.getElem?_replicate]
  split <;> simp
set_option maxHeartbeats 1000000 in
set_option maxRecDepth 100000 in
theorem kinds_any (w : World) : Calls Tryz.prog 40 #[] w fun r w' => ∃ m, r = .returned (.map (some m)) ∧ KMap w' m ∧ Kept w w' := by
  go_enter Tryz.func40, Tryz.ntmps40
  go_wp2_with fail
  have b0 := (Blk.made w #[.func (.func 61) #[] #[], .int .i64 1, .int .i64 1099511627776] 93).alloc (.cells #[.func (.func 62) #[] #[], .int .i64 0, .int .i64 64] 93)
  have b1 := Blk.made (w.alloc (.cells #[.func (.func 61) #[] #[], .int .i64 1, .int .i64 1099511627776] 93)) #[.func (.func 62) #[] #[], .int .i64 0, .int .i64 64] 93
  rw [World.size_alloc] at b1
  refine wp_region_inv (ops := kops) (by kernel_rfl) (KInv w w.heap.size (w.heap.size + 1)) kedge (fun listed a w i o h ho => ks_all i (Array.getElem?_eq_some_iff.1 ho).1 listed a w o h ho) ?_ ?_
  · intro listed a w' hl h
    obtain ⟨v, h1, m, rfl, h2⟩ := h.vals 53 (hl 53 (by decide)) (by decide)
    have hd := h.defers
    have hk := h.kept
    rename_i hK
    refine hK a w' ?_
    obtain ⟨tmps, defers⟩ := a
    simp only at hd
    subst hd
    refine wp_ret ?_
    show bodyPost Tryz.prog Tryz.f40 (fun r w' => ∃ m, r = .returned (.map (some m)) ∧ KMap w' m ∧ Kept w w') .ret ⟨tmps, []⟩ w'
    exact bodyPost_ret (ret_map tmps w' (.map (some m)) h1) rfl ⟨m, rfl, h2, hk⟩
  · refine ⟨by decide, rfl, rfl, rfl, rfl, rfl, b0.drewN 1, b1.drewN 1, (((Kept.refl w).alloc _).alloc _).drew, fun i hi => ?_, fun hi => ?_, fun j hj hi => ?_⟩
    · exact absurd hi (no_listed i)
    · exact absurd hi (no_listed 0)
    · exact absurd hi (no_listed (kins j))
end Go.Proofs.YtlfmpoinjbmjoaaGreatDoor
