/-
  The document's Turn, of two boxes.
-/
import Derived.Test.YtcachpcefeoolaaMref
namespace Go.Proofs.Ytcachpcefeoolaa
open Go.ChangeShapes Go.WideShapes Go.ChangeAt Go.RowKit

/-- a box of the document's, in a row -/
structure RBs where
  b : Nat
  v : Value
  size : Int
  l : List ByteArray
def RBs.Is (x : RBs) (w : World) (base : Nat) : Prop := RB w base x.b x.v x.size x.l

set_option maxHeartbeats 1000000 in
set_option maxRecDepth 100000 in
theorem rturn_no (n : Nat) (av : Option Addr) (cp : Nat) (z : Int) (w : World) (h : z < 0 ∨ (n : Int) ≤ z) :
    Calls Try.prog 23 #[.slice av n cp, .int .i64 z] w fun e w' => e = .returned (.tuple #[.int .i64 0, .string ⟨#[]⟩, .bool false]) ∧ Kept w w' := by
  by_cases h0 : z < 0
  · clear h
    go_enter Try.func23, Try.ntmps23
    go_wp2
    go_loopw [7] (fun i wr => i = .int .i64 0 ∧ Kept w wr) (fun _ _ => 0)
    case atStart => exact ⟨rfl, Kept.refl w⟩
    case round =>
      obtain ⟨rfl, kr⟩ := hrel
      by_cases hn : (0 : Nat) < n
      · go_wp2
        go_ret3
        exact ⟨rfl, kr⟩
      · have hn0 : n = 0 := by omega
        subst hn0
        go_wp2
        go_ret3
        exact ⟨rfl, kr⟩
  · have h1 : (n : Int) ≤ z := by omega
    clear h
    go_enter Try.func23, Try.ntmps23
    go_wp2
    go_loopw [7] (fun i wr => i = .int .i64 0 ∧ Kept w wr) (fun _ _ => 0)
    case atStart => exact ⟨rfl, Kept.refl w⟩
    case round =>
      obtain ⟨rfl, kr⟩ := hrel
      by_cases hn : (0 : Nat) < n
      · go_wp2
        go_ret3
        exact ⟨rfl, kr⟩
      · have hn0 : n = 0 := by omega
        subst hn0
        go_wp2
        go_ret3
        exact ⟨rfl, kr⟩

set_option maxHeartbeats 1000000 in
set_option maxRecDepth 100000 in
theorem rturn_any (n : Nat) (X : Nat → RBs) (base g cp f : Nat) (w : World) (hn : n ≤ 1000) (hf : f < n) (hg : g < w.heap.size) (hc : ∀ i, i < n → w.cell? ⟨g, i, none⟩ = some (.pointer (some ⟨(X i).b, 0, none⟩))) (hX : ∀ i, i < n → (X i).Is w base) :
    Calls Try.prog 23 #[.slice (some ⟨g, 0, none⟩) n cp, .int .i64 f] w fun e w' =>
      ((∀ i, i < n → (X i).l = []) ∧ e = .returned (.tuple #[.int .i64 0, .string ⟨#[]⟩, .bool false]) ∧ Kept w w') ∨
      (∃ i x t, i < n ∧ (∀ j, j < i → (X ((f + j) % n)).l = []) ∧ (X ((f + i) % n)).l = x :: t ∧ e = .returned (.tuple #[.int .i64 ((f + i) % n : Nat), .string x, .bool true]) ∧ (∃ v', RB w' base (X ((f + i) % n)).b v' (X ((f + i) % n)).size t ∧ v'.ownBlock = (X ((f + i) % n)).v.ownBlock) ∧ But (fun j => j = (X ((f + i) % n)).b) w w') := by
  have HC := Lib.hid hc
  have HX := Lib.hid hX
  clear hc hX
  have f1 : ¬ ((f : Int) < 0) := by omega
  have f3 : (0 : Int) ≤ (f : Int) := by omega
  have f2 : (f : Int) < (n : Int) := by omega
  go_enter Try.func23, Try.ntmps23
  go_wp2
  have hn0 : (n : Int) ≠ 0 := by omega
  go_loopw [7] (fun iv wr => ∃ k : Nat, k ≤ n ∧ iv = .int .i64 k ∧ (∀ j, j < k → (X ((f + j) % n)).l = []) ∧ Kept w wr) (fun iv _ => n - (intOf iv).toNat)
  case atStart => exact ⟨0, Nat.zero_le _, rfl, fun j hj => absurd hj (Nat.not_lt_zero _), Kept.refl w⟩
  case round =>
    obtain ⟨k, hk, rfl, hem, kr⟩ := hrel
    have Hem := Lib.hid hem
    clear hem
    by_cases hkn : k < n
    · obtain ⟨m, hm⟩ : ∃ m, m = (f + k) % n := ⟨_, rfl⟩
      have hmn : m < n := by rw [hm]; exact Nat.mod_lt _ (by omega)
      have r1 : Int.tmod ((f : Int) + (k : Int)) (n : Int) = (m : Int) := by rw [hm]; rfl
      have c1 : wr.cell? ⟨g, m, none⟩ = some (.pointer (some ⟨(X m).b, 0, none⟩)) := (Below.cell kr (p := ⟨g, m, none⟩) hg).trans (HC.out m hmn)
      have hx : RB wr base (X m).b (X m).v (X m).size (X m).l := (HX.out m hmn).kept kr
      have HM := Lib.hid hm
      have HXm := Lib.hid hx
      have Kr := Lib.hid kr
      clear hx hm kr
      cases hl : (X m).l with
      | nil =>
        have hx := HXm.out
        rw [hl] at hx
        have HL := Lib.hid hl
        go_wp2_with fail
        refine (rtake_none _ _ _ _ _ hx).mono ?_
        rintro e w1 ⟨rfl, k1⟩
        have K1 := Lib.hid (Kr.out.trans k1)
        clear hx k1 hl c1
        go_wp2
        go_roundw
        case rel => exact ⟨k + 1, by omega, by go_num, fun j hj => by
                      by_cases e : j = k
                      · subst e; rw [← HM.out]; exact HL.out
                      · exact Hem.out j (by omega), K1.out⟩
        case measure => simp [intOf]; omega
      | cons x t =>
        have hx := HXm.out
        rw [hl] at hx
        have HL := Lib.hid hl
        go_wp2_with fail
        refine (rtake_some _ _ _ _ _ _ _ hx).mono ?_
        rintro e w1 ⟨rfl, v', h1, hv, b1⟩
        have H1 := Lib.hid h1
        have HV := Lib.hid hv
        have B1 := Lib.hid (Kr.out.but.trans b1 fun _ _ h => h)
        clear hx h1 b1 hl c1 hv
        go_wp2
        go_ret3
        refine Or.inr ⟨k, x, t, hkn, Hem.out, ?_, ?_, ?_, ?_⟩
        · rw [← HM.out]; exact HL.out
        · rw [← HM.out]; rfl
        · rw [← HM.out]; exact ⟨v', H1.out, HV.out⟩
        · rw [← HM.out]; exact B1.out
    · have hkk : k = n := by omega
      subst hkk
      go_wp2
      go_ret3
      refine Or.inl ⟨fun i hi => ?_, rfl, kr⟩
      have : ∃ j, j < k ∧ (f + j) % k = i := by
        by_cases h : f ≤ i
        · exact ⟨i - f, by omega, by rw [Nat.add_sub_of_le h]; exact Nat.mod_eq_of_lt hi⟩
        · refine ⟨i + k - f, by omega, ?_⟩
          rw [show f + (i + k - f) = i + k from by omega, Nat.add_mod_right]
          exact Nat.mod_eq_of_lt hi
      obtain ⟨j, hj, e⟩ := this
      rw [← e]
      exact Hem.out j hj

/-- two pointers to the document's boxes, in a row -/
def RTwo (w : World) (g b b' : Nat) : Prop := w.heap[g]? = some (.cells #[.pointer (some ⟨b, 0, none⟩), .pointer (some ⟨b', 0, none⟩)] 27 (0, 0))
theorem rtwo_new (w : World) (b b' : Nat) : RTwo (w.alloc (.cells #[.pointer (some ⟨b, 0, none⟩), .pointer (some ⟨b', 0, none⟩)] 27)) w.heap.size b b' := heap_alloc_new w _
/-- no block of the one is of the other -/
structure RApart (b : Nat) (v : Value) (b' : Nat) (v' : Value) : Prop where
  ne : b ≠ b'
  row : Apart2 v v'
theorem RB.over {w w' : World} {base b b' : Nat} {v v' : Value} {size size' : Int} {l l' : List ByteArray} (Y : RB w base b' v' size' l') (X : RB w base b v size l) (h : b ≠ b') (k : But (fun i => i = b) w w') : RB w' base b' v' size' l' :=
  Y.but k h.symm fun i e he => by
    subst he
    obtain ⟨_, cur, hc⟩ := Y.row.blk e
    rw [X.blk] at hc
    injection hc with hc
    injection hc with _ ht
    exact absurd ht (by decide)

theorem rturn2 (base g cp b b' : Nat) (v v' : Value) (size size' : Int) (l l' : List ByteArray) (z : Int) (w : World) (hg : RTwo w g b b') (X : RB w base b v size l) (Y : RB w base b' v' size' l') (h : b ≠ b') :
    Calls Try.prog 23 #[.slice (some ⟨g, 0, none⟩) 2 cp, .int .i64 z] w fun e w' =>
      e = .returned (tw z l l').val ∧ ∃ u u', RB w' base b u size (tw z l l').l ∧ RB w' base b' u' size' (tw z l l').l' ∧ u.ownBlock = v.ownBlock ∧ u'.ownBlock = v'.ownBlock ∧ But (fun i => i = b ∨ i = b') w w' := by
  have tt : ∀ f : Nat, f < 2 → z = f → _ := fun f hf _ => rturn_any 2 (fun i => if i = 0 then ⟨b, v, size, l⟩ else ⟨b', v', size', l'⟩) base g cp f w (by decide) hf (heap_lt hg)
    (by intro i hi; match i, hi with | 0, _ => simp [World.cell?, show w.heap[g]? = _ from hg] | 1, _ => simp [World.cell?, show w.heap[g]? = _ from hg])
    (by intro i hi; match i, hi with | 0, _ => exact X | 1, _ => exact Y)
  have or1 : ∀ w', But (fun i => i = b) w w' → But (fun i => i = b ∨ i = b') w w' := fun w' k => ⟨k.os, k.tape, k.output, k.size, fun j hj hn => k.block j hj (fun e => hn (Or.inl e))⟩
  have or2 : ∀ w', But (fun i => i = b') w w' → But (fun i => i = b ∨ i = b') w w' := fun w' k => ⟨k.os, k.tape, k.output, k.size, fun j hj hn => k.block j hj (fun e => hn (Or.inr e))⟩
  by_cases h0 : z = 0
  · subst h0
    refine (tt 0 (by decide) rfl).mono ?_
    rintro e w' (⟨hn, rfl, k⟩ | ⟨i, x, t, hi, he, hx, rfl, ⟨u, y, hu⟩, k⟩)
    · have e1 := hn 0 (by decide)
      have e2 := hn 1 (by decide)
      simp at e1 e2
      subst e1 e2
      exact ⟨rfl, v, v', X.kept k, Y.kept k, rfl, rfl, k.but⟩
    · match i, hi with
      | 0, _ =>
        simp at hx y hu k
        subst hx
        refine ⟨?_, u, v', y, Y.over X h k, hu, rfl, or1 _ k⟩
        simp [tw, tw1, Tw.val]
      | 1, _ =>
        have e1 := he 0 (by decide)
        simp at e1 hx y hu k
        subst e1 hx
        refine ⟨?_, v, u, X.over Y h.symm k, y, rfl, hu, or2 _ k⟩
        simp [tw, tw1, Tw.val]
  · by_cases h1 : z = 1
    · subst h1
      refine (tt 1 (by decide) rfl).mono ?_
      rintro e w' (⟨hn, rfl, k⟩ | ⟨i, x, t, hi, he, hx, rfl, ⟨u, y, hu⟩, k⟩)
      · have e1 := hn 0 (by decide)
        have e2 := hn 1 (by decide)
        simp at e1 e2
        subst e1 e2
        exact ⟨rfl, v, v', X.kept k, Y.kept k, rfl, rfl, k.but⟩
      · match i, hi with
        | 0, _ =>
          simp at hx y hu k
          subst hx
          refine ⟨?_, v, u, X.over Y h.symm k, y, rfl, hu, or2 _ k⟩
          cases l <;> simp [tw, tw2, Tw.val]
        | 1, _ =>
          have e1 := he 0 (by decide)
          simp at e1 hx y hu k
          subst e1 hx
          refine ⟨?_, u, v', y, Y.over X h k, hu, rfl, or1 _ k⟩
          simp [tw, tw2, Tw.val]
    · have e : tw z l l' = ⟨0, ⟨#[]⟩, false, l, l'⟩ := by unfold tw; rw [if_neg h0, if_neg h1]
      rw [e]
      exact (rturn_no 2 (some ⟨g, 0, none⟩) cp z w (by omega)).mono fun e w' ⟨he, k⟩ => ⟨he, v, v', X.kept k, Y.kept k, rfl, rfl, k.but⟩
end Go.Proofs.Ytcachpcefeoolaa
