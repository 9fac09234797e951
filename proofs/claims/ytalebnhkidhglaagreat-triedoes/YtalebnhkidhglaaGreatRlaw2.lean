/-
  The contracts that the laws of layer 4 call by: scripts cut, what a trie tells.
-/
import Derived.Test.YtalebnhkidhglaaGreatRplay
namespace Go.Proofs.YtalebnhkidhglaaGreat
open Go.ChangeShapes Go.WideShapes Go.ChangeAt Go.RowKit Go.Maps

def OpV.small (o : OpV) : Prop := o.filter.size ≤ 150 ∧ o.topic.size ≤ 150 ∧ (Lit.int .i64 o.id).wf = true ∧ (Lit.int .i64 o.kind).wf = true
theorem cut_law (av : Option Addr) (len cap : Nat) (z : Nat → OpV) (w : World) (h : OpArg w av len cap z) :
    Calls Tryz.prog 4 #[.slice av len cap] w fun e w' => ∃ a c, ∃ os : List OpV, e = .returned (.slice a os.length c) ∧ OwnO w' w.heap.size (.slice a os.length c) os ∧ os.length ≤ 60 ∧ (∀ o ∈ os, o.small) ∧ Kept w w' := by
  refine (cut_any_ops av len cap z w h).mono ?_
  rintro e w' ⟨v, rfl, h1, h2⟩
  obtain ⟨a, c, rfl⟩ := h1.form
  refine ⟨a, c, _, rfl, h1, by simp; omega, fun o ho => ?_, h2⟩
  obtain ⟨i, _, rfl⟩ := List.mem_map.1 ho
  obtain ⟨g0, g1, g2, g3⟩ := h.2.2.1 i
  have s1 := cut_size (z i).filter 150
  have s2 := cut_size (z i).topic 150
  exact ⟨s1, s2, g2, g0⟩
theorem match_law {w0 w : World} (k : Kept w0 w) {n t : Nat} {N : Path → Option Loc} {A : Path → Int → Nat} (h : Tr w0 w n t N A) (hn : n ≤ 1000) (s : ByteArray) (hs : s.size ≤ 1000) :
    Calls Tryz.prog 11 #[.pointer (some ⟨t, 0, none⟩), .string s] w fun e w' => ∃ a cap, ∃ ids : List Int, e = .returned (.slice a ids.length cap) ∧ OwnI w' w.heap.size (.slice a ids.length cap) ids ∧ Who A s.data.toList ids ∧ Kept w0 w' ∧ Kept w w' := by
  refine (Match_any w n t hn N A h.tri s hs).mono ?_
  rintro e w' ⟨v, ids, rfl, h1, h2, h3, _⟩
  obtain ⟨a, cap, rfl⟩ := h1.form
  exact ⟨a, cap, ids, rfl, h1, h2, k.trans h3, h3⟩
theorem match_law2 {w0 w : World} (k : Kept w0 w) {n t : Nat} {N : Path → Option Loc} {A : Path → Int → Nat} (h : Tr w0 w n t N A) (hn : n ≤ 1000) (s : ByteArray) (hs : s.size ≤ 1000) :
    Calls Tryz.prog 11 #[.pointer (some ⟨t, 0, none⟩), .string s] w fun e w' => ∃ a cap, ∃ ids : List Int, e = .returned (.slice a ids.length cap) ∧ OwnI w' w.heap.size (.slice a ids.length cap) ids ∧ Who A s.data.toList ids ∧ Kept w0 w' ∧ Kept w w' ∧ ids.length ≤ 1000000 := by
  refine (Match_any w n t hn N A h.tri s hs).mono ?_
  rintro e w' ⟨v, ids, rfl, h1, h2, h3, h4⟩
  obtain ⟨a, cap, rfl⟩ := h1.form
  exact ⟨a, cap, ids, rfl, h1, h2, k.trans h3, h3, h4⟩
theorem Who.uniq {A : Path → Int → Nat} {s : List UInt8} {a b : List Int} (h1 : Who A s a) (h2 : Who A s b) : a = b := ints_ext h1.1 h2.1 (fun x => by rw [h1.2, h2.2])
/-- the filters for which somebody asks -/
def Some_ (A : Path → Int → Nat) (fs : List (List UInt8)) : Prop := Ordered fs ∧ ∀ f, f ∈ fs ↔ ∃ i, 0 < A (Tp.lev f) i
def His (A : Path → Int → Nat) (i : Int) (fs : List (List UInt8)) : Prop := Ordered fs ∧ ∀ f, f ∈ fs ↔ 0 < A (Tp.lev f) i
theorem Some_.uniq {A : Path → Int → Nat} {a b : List (List UInt8)} (h1 : Some_ A a) (h2 : Some_ A b) : a = b := texts_ext h1.1 h2.1 (fun x => by rw [h1.2, h2.2])
theorem His.uniq {A : Path → Int → Nat} {i : Int} {a b : List (List UInt8)} (h1 : His A i a) (h2 : His A i b) : a = b := texts_ext h1.1 h2.1 (fun x => by rw [h1.2, h2.2])
theorem all_law {w0 w : World} (k : Kept w0 w) {n t : Nat} {N : Path → Option Loc} {A : Path → Int → Nat} (h : Tr w0 w n t N A) (hn : n ≤ 1000000) :
    Calls Tryz.prog 12 #[.pointer (some ⟨t, 0, none⟩)] w fun e w' => ∃ a cap, ∃ fs : List (List UInt8), e = .returned (.slice a fs.length cap) ∧ OwnS w' w.heap.size (.slice a fs.length cap) fs ∧ Some_ A fs ∧ Kept w0 w' ∧ Kept w w' := by
  refine (All_any w n t hn N A h.tri).mono ?_
  rintro e w' ⟨v, fs, rfl, h1, h2, h3, h4⟩
  obtain ⟨a, cap, rfl⟩ := h1.form
  exact ⟨a, cap, fs, rfl, h1, ⟨h2, h3⟩, k.trans h4, h4⟩
theorem of_law {w0 w : World} (k : Kept w0 w) {n t : Nat} {N : Path → Option Loc} {A : Path → Int → Nat} (h : Tr w0 w n t N A) (hn : n ≤ 1000000) (i : Int) (hi : (Lit.int .i64 i).wf = true) :
    Calls Tryz.prog 17 #[.pointer (some ⟨t, 0, none⟩), .int .i64 i] w fun e w' => ∃ a cap, ∃ fs : List (List UInt8), e = .returned (.slice a fs.length cap) ∧ OwnS w' w.heap.size (.slice a fs.length cap) fs ∧ His A i fs ∧ Kept w0 w' ∧ Kept w w' := by
  refine (Of_any w n t hn N A h.tri i hi).mono ?_
  rintro e w' ⟨v, fs, rfl, h1, h2, h3, h4⟩
  obtain ⟨a, cap, rfl⟩ := h1.form
  exact ⟨a, cap, fs, rfl, h1, ⟨h2, h3⟩, k.trans h4, h4⟩
theorem fixed_law {w0 w : World} (k : Kept w0 w) : Calls Tryz.prog 21 #[] w fun e w' => e = .returned (.bool true) ∧ Kept w0 w' := (fixed4_any w).mono fun _ _ h => ⟨h.1, k.trans h.2⟩
theorem ints_law {w0 w : World} (k : Kept w0 w) {v1 v2 : Value} {xs ys : List Int} (h1 : Nums w v1 xs) (h2 : Nums w v2 ys) (h : xs = ys) :
    Calls Tryz.prog 13 #[v1, v2] w fun e w' => e = .returned (.bool true) ∧ Kept w0 w' ∧ Kept w w' := by
  subst h
  exact (ints_any v1 v2 xs xs w h1 h2).mono fun _ _ h => ⟨by rw [h.1]; simp, k.trans h.2, h.2⟩
theorem same_law {w0 w : World} (k : Kept w0 w) {v1 v2 : Value} {xs ys : List (List UInt8)} (h1 : Strs w v1 xs) (h2 : Strs w v2 ys) (h : xs = ys) :
    Calls Tryz.prog 15 #[v1, v2] w fun e w' => e = .returned (.bool true) ∧ Kept w0 w' ∧ Kept w w' := by
  subst h
  exact (same_any v1 v2 xs xs w h1 h2).mono fun _ _ h => ⟨by rw [h.1]; simp, k.trans h.2, h.2⟩
end Go.Proofs.YtalebnhkidhglaaGreat
