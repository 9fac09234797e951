/-
  A node of a trie: the walks of newNode, idle, find, times.
-/
import Derived.Test.YtalebnhkidhglaaGreatRheap
namespace Go.Proofs.YtalebnhkidhglaaGreat
open Go.ChangeShapes Go.WideShapes Go.ChangeAt Go.RowKit Go.Maps

theorem new_heap (w : World) (o : Obj) : (w.alloc o).heap[w.heap.size]? = some o := heap_alloc_new w o

theorem kept_alloc (w : World) (o : Obj) : Kept w (w.alloc o) := Kept.alloc (Kept.refl w) o

set_option maxHeartbeats 1000000 in
set_option maxRecDepth 100000 in
theorem newNode_any (w : World) : Calls Tryz.prog 22 #[] w fun e w' => ∃ l : Loc, e = .returned (.pointer (some ⟨l.b, 0, none⟩)) ∧ NodeAt w' 0 l (fun _ => none) (fun _ => 0) ∧ Kept w w' ∧ w.heap.size ≤ l.b ∧ w.heap.size ≤ l.c ∧ w.heap.size ≤ l.a ∧ l.c ≠ l.a := by
  have hmm := @run_makeMap Tryz.prog
  go_enter Tryz.func22, Tryz.ntmps22
  go_wp2
  go_ret
  have k1 := kept_alloc w (.map #[] 0)
  have k2 := kept_alloc (w.alloc (.map #[] 0)) (.map #[] 0)
  have k3 := kept_alloc ((w.alloc (.map #[] 0)).alloc (.map #[] 0)) (.cells #[.map (some w.heap.size), .map (some (w.heap.size + 1))] 63)
  have m2 := AskMap.made (w.alloc (.map #[] 0))
  have c3 := new_heap ((w.alloc (.map #[] 0)).alloc (.map #[] 0)) (.cells #[.map (some w.heap.size), .map (some (w.heap.size + 1))] 63)
  simp only [World.size_alloc] at m2 c3
  refine ⟨⟨w.heap.size + 1 + 1, w.heap.size, w.heap.size + 1⟩, rfl, ⟨c3, ?_, ?_⟩, k1.trans (k2.trans k3), by show _ ≤ _ + 1 + 1; omega, Nat.le_refl _, Nat.le_succ _, by show w.heap.size ≠ w.heap.size + 1; omega⟩
  · exact (KidMap.made w).but (S := fun _ => False) (k2.trans k3).but id
  · exact m2.but (S := fun _ => False) k3.but id

/-- without children, and nobody asks -/
def IdleIs (kid : List UInt8 → Option Nat) (ask : Int → Nat) (e : Ending) : Prop := ∃ r : Bool, e = .returned (.bool r) ∧ (r = true ↔ (∀ x, kid x = none) ∧ ∀ i, ask i = 0)

set_option maxHeartbeats 1000000 in
set_option maxRecDepth 100000 in
theorem idle_any (w : World) (n : Nat) (l : Loc) (kid : List UInt8 → Option Nat) (ask : Int → Nat) (h : NodeAt w n l kid ask) :
    Calls Tryz.prog 67 #[.pointer (some ⟨l.b, 0, none⟩)] w fun e w' => IdleIs kid ask e ∧ Kept w w' := by
  have c0 := h.c0
  have c1 := h.c1
  obtain ⟨m1, l1, r1, i1⟩ := h.kids.len 3
  obtain ⟨m2, l2, r2, i2⟩ := h.asks.len 3
  have I1 := Lib.hid i1
  have I2 := Lib.hid i2
  clear i1 i2
  by_cases e1 : m1 = 0
  · subst e1
    by_cases e2 : m2 = 0
    · subst e2
      go_enter Tryz.func67, Tryz.ntmps67
      go_wp2
      go_ret
      exact ⟨⟨true, rfl, ⟨fun _ => ⟨I1.out.1 (by trivial), I2.out.1 (by trivial)⟩, fun _ => rfl⟩⟩, Kept.refl _⟩
    · have e3 : ((m2 : Int) == 0) = false := by simp; omega
      go_enter Tryz.func67, Tryz.ntmps67
      go_wp2
      go_ret
      exact ⟨⟨false, rfl, ⟨fun e => (by cases e), fun h => absurd (I2.out.2 h.2) e2⟩⟩, Kept.refl _⟩
  · have e3 : ((m1 : Int) == 0) = false := by simp; omega
    go_enter Tryz.func67, Tryz.ntmps67
    go_wp2
    go_ret
    exact ⟨⟨false, rfl, ⟨fun e => (by cases e), fun h => absurd (I1.out.2 h.1) e1⟩⟩, Kept.refl _⟩

theorem TrieAt.none_on {w : World} {n : Nat} {N : Path → Option Loc} {A : Path → Int → Nat} (h : TrieAt w n N A) : ∀ (q p : Path), N p = none → N (p ++ q) = none
  | [], p, hp => by simpa using hp
  | x :: q, p, hp => by
    have : N (p ++ [x]) = none := by
      cases e : N (p ++ [x]) with
      | none => rfl
      | some l => obtain ⟨m, hm⟩ := h.up p x l e; rw [hp] at hm; cases hm
    have := h.none_on q (p ++ [x]) this
    rwa [List.append_assoc] at this

set_option maxHeartbeats 1000000 in
set_option maxRecDepth 100000 in
theorem find_any (w : World) (n : Nat) (N : Path → Option Loc) (A : Path → Int → Nat) (hT : TrieAt w n N A) (p : Path) (l : Loc) (hp : N p = some l) (v : Value) (ls : Path) (hv : Strs w v ls) (hl : ∀ x ∈ ls, x.length ≤ 1000000) :
    Calls Tryz.prog 63 #[.pointer (some ⟨l.b, 0, none⟩), v] w fun e w' => e = .returned (.pointer ((N (p ++ ls)).map fun l => ⟨l.b, 0, none⟩)) ∧ Kept w w' := by
  obtain ⟨a, cap, rfl, h1, h2, h3⟩ := hv
  unfold maxLen at h2
  have HL := Lib.hid hl
  clear hl
  go_enter Tryz.func63, Tryz.ntmps63
  go_wp2
  go_loopw [0, 11] (fun u i wr => ∃ (k : Nat) (m : Loc), k ≤ ls.length ∧ i = .int .i64 k ∧ u = .pointer (some ⟨m.b, 0, none⟩) ∧ N (p ++ ls.take k) = some m ∧ Kept w wr) (fun _ i _ => ls.length - (intOf i).toNat)
  case atStart => exact ⟨0, l, Nat.zero_le _, rfl, rfl, by simpa using hp, Kept.refl w⟩
  case round =>
    obtain ⟨k, m, hk, rfl, rfl, hm, hK⟩ := hrel
    have Hm := Lib.hid hm
    clear hm
    by_cases hlt : k < ls.length
    · rcases h3 with h3 | ⟨g, off, rfl, hg, hc⟩
      · rw [h3] at hlt; exact absurd hlt (by simp)
      · have HC := Lib.hid hc
        clear hc
        obtain ⟨x, cx0, lx⟩ := strs_at HC.out k hlt
        have cx : wr.cell? ⟨g, off + k, none⟩ = some (.string x) := (Below.cell hK (p := ⟨g, off + k, none⟩) hg).trans cx0
        clear cx0
        rw [toList_eq] at lx
        have Hx := Lib.hid lx
        have hxs : x.size ≤ maxLen := by
          have := HL.out _ (List.getElem_mem hlt)
          rw [← Hx.out] at this
          unfold maxLen; simp at this; omega
        clear lx
        have hnode := (hT.kept hK).node _ _ Hm.out
        have c0 := hnode.c0
        have hlk := hnode.kids.look hxs
        have Hst : Hid (p ++ ls.take k ++ [x.data.toList] = p ++ ls.take (k + 1)) := by
          show _ = _
          rw [Hx.out, List.append_assoc, List.take_succ_eq_append_getElem hlt]
        clear hnode
        cases hN : N (p ++ ls.take k ++ [x.data.toList]) with
        | none =>
          simp only [hN, Option.map_none, Option.isSome_none] at hlk
          have Hf : Hid (N (p ++ ls) = none) := by
            show _ = _
            rw [Hst.out] at hN
            have := hT.none_on (ls.drop (k + 1)) _ hN
            rwa [List.append_assoc, List.take_append_drop] at this
          clear hN
          go_wp2
          go_ret
          exact ⟨by rw [Hf.out]; rfl, hK⟩
        | some m' =>
          simp only [hN, Option.map_some, Option.isSome_some] at hlk
          have HN := Lib.hid hN
          clear hN
          go_wp2
          go_roundw
          case rel => exact ⟨k + 1, m', by omega, by go_num, rfl, by rw [← Hst.out]; exact HN.out, hK⟩
          case measure => simp [intOf]; omega
    · go_wp2
      go_ret
      refine ⟨?_, hK⟩
      have := Hm.out
      rw [List.take_of_length_le (by omega)] at this
      rw [this]; rfl

set_option maxHeartbeats 1000000 in
set_option maxRecDepth 100000 in
theorem times_any (w : World) (n : Nat) (N : Path → Option Loc) (A : Path → Int → Nat) (hT : TrieAt w n N A) (p : Path) (l : Loc) (hp : N p = some l) (v : Value) (ls : Path) (hv : Strs w v ls) (hl : ∀ x ∈ ls, x.length ≤ 1000000) (i : Int) (hi : (Lit.int .i64 i).wf = true) :
    Calls Tryz.prog 42 #[.pointer (some ⟨l.b, 0, none⟩), v, .int .i64 i] w fun e w' => e = .returned (.int .i64 (A (p ++ ls) i)) ∧ Kept w w' := by
  obtain ⟨a, cap, rfl, h1, h2, h3⟩ := hv
  have hc := find_any w n N A hT p l hp _ ls ⟨a, cap, rfl, h1, h2, h3⟩ hl
  clear hl
  go_enter Tryz.func42, Tryz.ntmps42
  go_wp2_with fail
  refine hc.mono ?_
  rintro e w' ⟨rfl, hk⟩
  cases hN : N (p ++ ls) with
  | none =>
    have Ho := Lib.hid (hT.out _ hN i)
    clear hN
    go_wp2
    go_ret
    exact ⟨by rw [Ho.out]; rfl, hk⟩
  | some m =>
    have hnode := (hT.kept hk).node _ _ hN
    have c1 := hnode.c1
    have hlk := hnode.asks.look hi
    clear hnode hN
    go_wp2
    go_ret
    exact ⟨rfl, hk⟩
end Go.Proofs.YtalebnhkidhglaaGreat
