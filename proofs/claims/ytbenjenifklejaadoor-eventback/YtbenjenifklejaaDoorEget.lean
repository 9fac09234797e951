/-
  The walk of Get.
-/
import Derived.Test.YtbenjenifklejaaDoorEtake
import Derived.Test.YtbenjenifklejaaDoorEright
namespace Go.Proofs.YtbenjenifklejaaDoor
open Go.ChangeShapes Go.WideShapes Go.ChangeAt Go.RowKit

/-- the closure's blocks, and the one that is taken into -/
structure Far (n f sb ab g : Nat) : Prop where
  nf : n ≤ f
  nsb : n ≤ sb
  nab : n ≤ ab
  ng : n ≤ g
  d1 : f ≠ sb
  d2 : f ≠ ab
  d3 : ab ≠ sb
  d4 : g ≠ f
  d5 : g ≠ sb
  d6 : g ≠ ab

theorem take_parts (ps : List Pt) (av : Option Addr) (n q f sb ab g : Nat) (t : TypeId) (s : ByteArray) (st : List Ev.It × Int × Nat) (arr : Array Value) (wr W : World) (hs : s.size ≤ 140737488355328) (hst : Fair st) (hT : Tab W) (hn : ps.length ≤ 2) (h0 : 0 < n)
    (hfar : Far n f sb ab g) (hk : Kept wr W) (htk : Tk wr f sb ab s st) (hg : Blk wr g arr t) (hav : ps.length = 0 ∨ (av = some ⟨q, 0, none⟩ ∧ wr.heap.size ≤ q ∧ ∃ T, Blk W q (ps.map Pt.val).toArray T))
    (hpb : ∀ p ∈ ps, wr.heap.size ≤ p.pb ∧ p.off < arr.size ∧ ∃ T, Blk W p.pb #[.pointer (some ⟨g, p.off, none⟩)] T) :
    Calls Tryd.prog 61 #[.slice av ps.length ps.length, .pointer (some ⟨f, 0, none⟩), .pointer (some ⟨sb, 0, none⟩), .pointer (some ⟨ab, 0, none⟩)] W fun e w' =>
      e = .returned (.tuple #[.int .i64 (tk s.data.toList (st, arr) ps).1.2.1, .int .i64 (tk s.data.toList (st, arr) ps).1.2.2]) ∧ Took wr f sb ab g s t (tk s.data.toList (st, arr) ps) w' := by
  have l1 := htk.first.lt
  have l2 := htk.at_.lt
  have l3 := hg.lt
  have hz : wr.heap.size ≠ f ∧ wr.heap.size ≠ ab ∧ wr.heap.size ≠ g := ⟨by omega, by omega, by omega⟩
  have key : ∀ q, wr.heap.size ≤ q → Pts W q g arr.size ps (fun i => i = f ∨ i = ab ∨ i = g) → (ps.length = 0 ∨ av = some ⟨q, 0, none⟩) →
      Calls Tryd.prog 61 #[.slice av ps.length ps.length, .pointer (some ⟨f, 0, none⟩), .pointer (some ⟨sb, 0, none⟩), .pointer (some ⟨ab, 0, none⟩)] W fun e w' =>
      e = .returned (.tuple #[.int .i64 (tk s.data.toList (st, arr) ps).1.2.1, .int .i64 (tk s.data.toList (st, arr) ps).1.2.2]) ∧ Took wr f sb ab g s t (tk s.data.toList (st, arr) ps) w' := by
    intro q _ hp hav
    refine (take_any ps av q f sb ab g t s st arr W hs hst hT hn hav ⟨htk.first.kept hk, htk.text.kept hk, htk.at_.kept hk⟩ (hg.kept hk) hp ⟨by have := hfar.nf; omega, by have := hfar.nab; omega, by have := hfar.ng; omega⟩ hfar.d1 hfar.d2 hfar.d3 hfar.d4 hfar.d5 hfar.d6).mono ?_
    rintro e w' ⟨rfl, r1, r2, r3⟩
    exact ⟨rfl, r1, r2, (Kept.but hk).trans r3 (fun _ _ h => h)⟩
  rcases hav with h | ⟨rfl, hq, T, hqb⟩
  · have hnil : ps = [] := List.eq_nil_of_length_eq_zero h
    refine key wr.heap.size (Nat.le_refl _) ⟨by rintro (h | h | h) <;> omega, ?_⟩ (.inl h)
    intro i p hp
    rw [hnil] at hp
    simp at hp
  · refine key q hq ⟨by rintro (h | h | h) <;> omega, ?_⟩ (.inr rfl)
    intro i p hp
    obtain ⟨p1, p2, T', p3⟩ := hpb p (List.mem_of_getElem? hp)
    refine ⟨?_, ?_, by rintro (h | h | h) <;> omega, p2⟩
    · rw [hqb.cell i]
      simp [hp]
    · exact (p3.cell 0).trans rfl

theorem Took.step {w wr w' : World} {f sb ab g : Nat} {s : ByteArray} {t : TypeId} {x y : (List Ev.It × Int × Nat) × Array Value} (h : Took w f sb ab g s t x wr) (k : Took wr f sb ab g s t y w') : Took w f sb ab g s t y w' :=
  ⟨k.1, k.2.1, h.2.2.trans k.2.2 (fun _ _ h => h)⟩

/-- the parts of an event -/
def P5 : List Pt := [⟨true, 0, 0⟩, ⟨true, 0, 1⟩, ⟨true, 0, 4⟩, ⟨false, 0, 2⟩, ⟨false, 0, 3⟩]
def got (l : List UInt8) (a : Int) (k : Nat) : (List Ev.It × Int × Nat) × Array Value := tk l (([], a, 0), evc .zero) (P5.take k)
theorem got_next (l : List UInt8) (a : Int) (k : Nat) (h : k < 5) (pb : Nat) : tk l ((got l a k).1, (got l a k).2) [⟨(P5[k]'h).kind, pb, (P5[k]'h).off⟩] = got l a (k + 1) := by
  unfold got
  rw [tk_snoc l _ P5 k h]
  rfl
theorem got_size (l : List UInt8) (a : Int) (k : Nat) : (got l a k).2.size = 5 := by unfold got; rw [tk_size]; rfl
theorem got_fair (l : List UInt8) (hl : l.length ≤ 9223372036854775807) (a : Int) (h1 : -9223372036854775808 ≤ a) (h2 : a ≤ 9223372036854775807) (k : Nat) : Fair (got l a k).1 := by
  unfold got; rw [tk_fst]; exact fold_fair l hl _ _ ⟨h1, h2, Nat.zero_le _⟩
theorem got_five (l : List UInt8) (a : Int) : (got l a 5).1 = Ev.igets Ev.kinds l a := by
  have h : (P5.take 5).map Pt.kind = Ev.kinds := rfl
  unfold got
  rw [tk_fst, h, Ev.igets]
theorem tk1_ok (l : List UInt8) (x : (List Ev.It × Int × Nat) × Array Value) (p : Pt) (h : (tk1 l x p).1.2.2 = 0) :
    x.1.2.2 = 0 ∧ (tk1 l x p).1.1 = x.1.1 ++ [(Ev.iget p.kind l x.1.2.1).1] ∧ (tk1 l x p).2 = x.2.setIfInBounds p.off (itv (Ev.iget p.kind l x.1.2.1).1) := by
  unfold tk1 at h ⊢
  by_cases h0 : x.1.2.2 = 0
  · rw [if_pos h0] at h ⊢
    exact ⟨h0, (Ev.istep_list l x.1 p.kind h).2.2, rfl⟩
  · rw [if_neg h0] at h; exact absurd h h0
theorem got_event (l : List UInt8) (a : Int) (h : (got l a 5).1.2.2 = 0) : (got l a 5).2 = evc (Ev.ofIts (got l a 5).1.1) ∧ Fit (Ev.ofIts (got l a 5).1.1) := by
  have e5 : got l a 5 = tk1 l (got l a 4) ⟨false, 0, 3⟩ := tk_snoc l _ P5 4 (by decide)
  have e4 : got l a 4 = tk1 l (got l a 3) ⟨false, 0, 2⟩ := tk_snoc l _ P5 3 (by decide)
  have e3 : got l a 3 = tk1 l (got l a 2) ⟨true, 0, 4⟩ := tk_snoc l _ P5 2 (by decide)
  have e2 : got l a 2 = tk1 l (got l a 1) ⟨true, 0, 1⟩ := tk_snoc l _ P5 1 (by decide)
  have e1 : got l a 1 = tk1 l (got l a 0) ⟨true, 0, 0⟩ := tk_snoc l _ P5 0 (by decide)
  rw [e5] at h ⊢
  obtain ⟨h4, l5, a5⟩ := tk1_ok l _ _ h
  rw [l5, a5]
  rw [e4] at h4 ⊢
  obtain ⟨h3, l4, a4⟩ := tk1_ok l _ _ h4
  rw [l4, a4]
  rw [e3] at h3 ⊢
  obtain ⟨h2, l3, a3⟩ := tk1_ok l _ _ h3
  rw [l3, a3]
  rw [e2] at h2 ⊢
  obtain ⟨h1, l2, a2⟩ := tk1_ok l _ _ h2
  rw [l2, a2]
  rw [e1] at h1 ⊢
  obtain ⟨h0, l1, a1⟩ := tk1_ok l _ _ h1
  rw [l1, a1]
  have hv : ∀ a : Int, (vcut l a).1.length ≤ 65536 := fun a => by
    unfold vcut
    split
    · simp
    · split
      · simp
      · split
        · simp
        · simp only [List.length_take]; omega
  simp only [Ev.iget_n, Ev.iget_t, itv]
  generalize hA : (vcut l (tk1 l (tk1 l (tk1 l (tk1 l (got l a 0) ⟨true, 0, 0⟩) ⟨true, 0, 1⟩) ⟨true, 0, 4⟩) ⟨false, 0, 2⟩).1.2.1).1 = A
  generalize hB : (vcut l (tk1 l (tk1 l (tk1 l (got l a 0) ⟨true, 0, 0⟩) ⟨true, 0, 1⟩) ⟨true, 0, 4⟩).1.2.1).1 = B
  have lA : A.length ≤ 65536 := by rw [← hA]; exact hv _
  have lB : B.length ≤ 65536 := by rw [← hB]; exact hv _
  generalize (vget l (tk1 l (tk1 l (got l a 0) ⟨true, 0, 0⟩) ⟨true, 0, 1⟩).1.2.1).1 = C
  generalize (vget l (tk1 l (got l a 0) ⟨true, 0, 0⟩).1.2.1).1 = D
  generalize (vget l (got l a 0).1.2.1).1 = E
  have g0 : (got l a 0).1.1 = [] := rfl
  have g1 : (got l a 0).2 = #[.int .i64 0, .int .i64 0, .string ⟨#[]⟩, .string ⟨#[]⟩, .int .i64 0] := rfl
  rw [g0, g1]
  have hc : ∀ n, Ev.clip n ≤ 1099511627777 := fun n => by unfold Ev.clip; omega
  have c1 := hc C
  have c2 := hc D
  have c3 := hc E
  refine ⟨rfl, ⟨?_, ?_, ?_, ?_, ?_, ?_, ?_, ?_⟩⟩
  all_goals simp only [List.nil_append, List.cons_append, Ev.ofIts]
  · omega
  · omega
  · omega
  · omega
  · show B.toArray.size ≤ _; rw [List.size_toArray]; omega
  · show A.toArray.size ≤ _; rw [List.size_toArray]; omega
  · omega
  · omega
end Go.Proofs.YtbenjenifklejaaDoor
