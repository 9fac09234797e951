/-
  The walk of Get.
-/
import Derived.Test.YtlfmpoinjbmjoaaGreatDoorEtake
import Derived.Test.YtlfmpoinjbmjoaaGreatDoorEright
namespace Go.Proofs.YtlfmpoinjbmjoaaGreatDoor
open Go.ChangeShapes Go.WideShapes Go.ChangeAt Go.RowKit

/-- the closure's blocks, and the one that is taken into -/
structure Far (n f sb ab g : Nat) : Prop where
  nf : n ≤ f
  nsb : n ≤ sb
  nab : n ≤ ab
  ng : n ≤ g
  d1 : f ≠ sb
  d2 : f ≠ ab
  d3 : ab ≠ sb
  d4 : g ≠ f
  d5 : g ≠ sb
  d6 : g ≠ ab

theorem take_parts (ps : List Pt) (av : Option Addr) (n q f sb ab g : Nat) (t : TypeId) (s : ByteArray) (st : List Ev.It × Int × Nat) (arr : Array Value) (wr W : World) (hs : s.size ≤ 140737488355328) (hst : Fair st) (hT : Tab W) (hn : ps.length ≤ 2) (h0 : 0 < n)
    (hfar : Far n f sb ab g) (hk : Kept wr W) (htk : Tk wr f sb ab s st) (hg : Blk wr g arr t) (hav : ps.length = 0 ∨ (av = some ⟨q, 0, none⟩ ∧ wr.heap.size ≤ q ∧ ∃ T, Blk W q (ps.map Pt.val).toArray T))
    (hpb : ∀ p ∈ ps, wr.heap.size ≤ p.pb ∧ p.off < arr.size ∧ ∃ T, Blk W p.pb #[.pointer (some ⟨g, p.off, none⟩)] T) :
    Calls Tryz.prog 134 #[.slice av ps.length ps.length, .pointer (some ⟨f, 0, none⟩), .pointer (some ⟨sb, 0, none⟩), .pointer (some ⟨ab, 0, none⟩)] W fun e w' =>
      e = .returned (.tuple #[.int .i64 (tk s.data.toList (st, arr) ps).1.2.1, .int .i64 (tk s.data.toList (st, arr) ps).1.2.2]) ∧ Took wr f sb ab g s t (tk s.data.toList (st, arr) ps) w' := by
  have l1 := htk.first.lt
  have l2 := htk.at_.lt
  have l3 := hg.lt
  have hz : wr.heap.size ≠ f ∧ wr.heap.size ≠ ab ∧ wr.heap.size ≠ g := ⟨by omega, by omega, by omega⟩
  have key : ∀ q, wr.heap.size ≤ q → Pts W q g arr.size ps (fun i => i = f ∨ i = ab ∨ i = g) → (ps.length = 0 ∨ av = some ⟨q, 0, none⟩) →
      Calls Tryz.prog 134 #[.slice av ps.length ps.length, .pointer (some ⟨f, 0, none⟩), .pointer (some ⟨sb, 0, none⟩), .pointer (some ⟨ab, 0, none⟩)] W fun e w' =>
      e = .returned (.tuple #[.int .i64 (tk s.data.toList (st, arr) ps).1.2.1, .int .i64 (tk s.data.toList (st, arr) ps).1.2.2]) ∧ Took wr f sb ab g s t (tk s.data.toList (st, arr) ps) w' := by
    intro q _ hp hav
    refine (take_any ps av q f sb ab g t s st arr W hs hst hT hn hav ⟨htk.first.kept hk, htk.text.kept hk, htk.at_.kept hk⟩ (hg.kept hk) hp ⟨by have := hfar.nf; omega, by have := hfar.nab; omega, by have := hfar.ng; omega⟩ hfar.d1 hfar.d2 hfar.d3 hfar.d4 hfar.d5 hfar.d6).mono ?_
    rintro e w' ⟨rfl, r1, r2, r3⟩
    exact ⟨rfl, r1, r2, (Kept.but hk).trans r3 (fun _ _ h => h)⟩
  rcases hav with h | ⟨rfl, hq, T, hqb⟩
  · have hnil : ps = [] := List.eq_nil_of_length_eq_zero h
    refine key wr.heap.size (Nat.le_refl _) ⟨by rintro (h | h | h) <;> omega, ?_⟩ (.inl h)
    intro i p hp
    rw [hnil] at hp
    simp at hp
  · refine key q hq ⟨by rintro (h | h | h) <;> omega, ?_⟩ (.inr rfl)
    intro i p hp
    obtain ⟨p1, p2, T', p3⟩ := hpb p (List.mem_of_getElem? hp)
    refine ⟨?_, ?_, by rintro (h | h | h) <;> omega, p2⟩
    · rw [hqb.cell i]
      simp [hp]
    · exact (p3.cell 0).trans rfl

theorem Took.step {w wr w' : World} {f sb ab g : Nat} {s : ByteArray} {t : TypeId} {x y : (List Ev.It × Int × Nat) × Array Value} (h : Took w f sb ab g s t x wr) (k : Took wr f sb ab g s t y w') : Took w f sb ab g s t y w' :=
  ⟨k.1, k.2.1, h.2.2.trans k.2.2 (fun _ _ h => h)⟩

/-- the parts of an event -/
def P5 : List Pt := [⟨true, 0, 0⟩, ⟨true, 0, 1⟩, ⟨true, 0, 4⟩, ⟨false, 0, 2⟩, ⟨false, 0, 3⟩]
def got (l : List UInt8) (a : Int) (k : Nat) : (List Ev.It × Int × Nat) × Array Value := tk l (([], a, 0), evc .zero) (P5.take k)
theorem got_next (l : List UInt8) (a : Int) (k : Nat) (h : k < 5) (pb : Nat) : tk l ((got l a k).1, (got l a k).2) [⟨(P5[k]'h).kind, pb, (P5[k]'h).off⟩] = got l a (k + 1) := by
  unfold got
  rw [tk_snoc l _ P5 k h]
  rfl
theorem got_size (l : List UInt8) (a : Int) (k : Nat) : (got l a k).2.size = 5 := by unfold got; rw [tk_size]; rfl
theorem got_fair (l : List UInt8) (hl : l.length ≤ 9223372036854775807) (a : Int) (h1 : -9223372036854775808 ≤ a) (h2 : a ≤ 9223372036854775807) (k : Nat) : Fair (got l a k).1 := by
  unfold got; rw [tk_fst]; exact fold_fair l hl _ _ ⟨h1, h2, Nat.zero_le _⟩
theorem got_five (l : List UInt8) (a : Int) : (got l a 5).1 = Ev.igets Ev.kinds l a := by
  have h : (P5.take 5).map Pt.kind = Ev.kinds := rfl
  unfold got
  rw [tk_fst, h, Ev.igets]
theorem tk1_ok (l : List UInt8) (x : (List Ev.It × Int × Nat) × Array Value) (p : Pt) (h : (tk1 l x p).1.2.2 = 0) :
    x.1.2.2 = 0 ∧ (tk1 l x p).1.1 = x.1.1 ++ [(Ev.iget p.kind l x.1.2.1).1] ∧ (tk1 l x p).2 = x.2.setIfInBounds p.off (itv (Ev.iget p.kind l x.1.2.1).1) := by
  unfold tk1 at h ⊢
  by_cases h0 : x.1.2.2 = 0
  · rw [if_pos h0] at h ⊢
    exact ⟨h0, (Ev.istep_list l x.1 p.kind h).2.2, rfl⟩
  · rw [if_neg h0] at h; exact absurd h h0
theorem got_event (l : List UInt8) (a : Int) (h : (got l a 5).1.2.2 = 0) : (got l a 5).2 = evc (Ev.ofIts (got l a 5).1.1) ∧ Fit (Ev.ofIts (got l a 5).1.1) := by
  have e5 : got l a 5 = tk1 l (got l a 4) ⟨false, 0, 3⟩ := tk_snoc l _ P5 4 (by decide)
  have e4 : got l a 4 = tk1 l (got l a 3) ⟨false, 0, 2⟩ := tk_snoc l _ P5 3 (by decide)
  have e3 : got l a 3 = tk1 l (got l a 2) ⟨true, 0, 4⟩ := tk_snoc l _ P5 2 (by decide)
  have e2 : got l a 2 = tk1 l (got l a 1) ⟨true, 0, 1⟩ := tk_snoc l _ P5 1 (by decide)
  have e1 : got l a 1 = tk1 l (got l a 0) ⟨true, 0, 0⟩ := tk_snoc l _ P5 0 (by decide)
  rw [e5] at h ⊢
  obtain ⟨h4, l5, a5⟩ := tk1_ok l _ _ h
  rw [l5, a5]
  rw [e4] at h4 ⊢
  obtain ⟨h3, l4, a4⟩ := tk1_ok l _ _ h4
  rw [l4, a4]
  rw [e3] at h3 ⊢
  obtain ⟨h2, l3, a3⟩ := tk1_ok l _ _ h3
  rw [l3, a3]
  rw [e2] at h2 ⊢
  obtain ⟨h1, l2, a2⟩ := tk1_ok l _ _ h2
  rw [l2, a2]
  rw [e1] at h1 ⊢
  obtain ⟨h0, l1, a1⟩ := tk1_ok l _ _ h1
  rw [l1, a1]
  have hv : ∀ a : Int, (vcut l a).1.length ≤ 65536 := fun a => by
    unfold vcut
    split
    · simp
    · split
      · simp
      · split
        · simp
        · simp only [List.length_take]; omega
  simp only [Ev.iget_n, Ev.iget_t, itv]
  generalize hA : (vcut l (tk1 l (tk1 l (tk1 l (tk1 l (got l a 0) ⟨true, 0, 0⟩) ⟨true, 0, 1⟩) ⟨true, 0, 4⟩) ⟨false, 0, 2⟩).1.2.1).1 = A
  generalize hB : (vcut l (tk1 l (tk1 l (tk1 l (got l a 0) ⟨true, 0, 0⟩) ⟨true, 0, 1⟩) ⟨true, 0, 4⟩).1.2.1).1 = B
  have lA : A.length ≤ 65536 := by rw [← hA]; exact hv _
  have lB : B.length ≤ 65536 := by rw [← hB]; exact hv _
  generalize (vget l (tk1 l (tk1 l (got l a 0) ⟨true, 0, 0⟩) ⟨true, 0, 1⟩).1.2.1).1 = C
  generalize (vget l (tk1 l (got l a 0) ⟨true, 0, 0⟩).1.2.1).1 = D
  generalize (vget l (got l a 0).1.2.1).1 = E
  have g0 : (got l a 0).1.1 = [] := rfl
  have g1 : (got l a 0).2 = #[.int .i64 0, .int .i64 0, .string ⟨#[]⟩, .string ⟨#[]⟩, .int .i64 0] := rfl
  rw [g0, g1]
  have hc : ∀ n, Ev.clip n ≤ 1099511627777 := fun n => by unfold Ev.clip; omega
  have c1 := hc C
  have c2 := hc D
  have c3 := hc E
  refine ⟨rfl, ⟨?_, ?_, ?_, ?_, ?_, ?_, ?_, ?_⟩⟩
  all_goals simp only [List.nil_append, List.cons_append, Ev.ofIts]
  · omega
  · omega
  · omega
  · omega
  · show B.toArray.size ≤ _; rw [List.size_toArray]; omega
  · show A.toArray.size ≤ _; rw [List.size_toArray]; omega
  · omega
  · omega
end Go.Proofs.YtlfmpoinjbmjoaaGreatDoor

namespace Go.Proofs.YtlfmpoinjbmjoaaGreatDoor
open Go.ChangeShapes Go.WideShapes Go.ChangeAt Go.RowKit

/-- an event, a place and an error as Get tells them -/
def tupe (x : Ev.E × Nat × Nat) : Value := .tuple #[evv x.1, .int .i64 x.2.1, .int .i64 x.2.2]

theorem take_num (off n f sb ab g : Nat) (t : TypeId) (s : ByteArray) (st : List Ev.It × Int × Nat) (arr : Array Value) (wr : World) (hs : s.size ≤ 140737488355328) (hst : Fair st) (hT : Tab wr) (h0 : 0 < n)
    (hfar : Far n f sb ab g) (htk : Tk wr f sb ab s st) (hg : Blk wr g arr t) (hoff : off < arr.size) :
    Calls Tryz.prog 134 #[.slice (some ⟨wr.heap.size + 1, 0, none⟩) 1 1, .pointer (some ⟨f, 0, none⟩), .pointer (some ⟨sb, 0, none⟩), .pointer (some ⟨ab, 0, none⟩)]
      ((wr.alloc (.cells #[.pointer (some ⟨g, off, none⟩)] 90)).alloc (.cells #[.func (.func 135) #[] #[.pointer (some ⟨wr.heap.size, 0, none⟩)]] 157)) fun e w' =>
      e = .returned (.tuple #[.int .i64 (tk1 s.data.toList (st, arr) ⟨true, 0, off⟩).1.2.1, .int .i64 (tk1 s.data.toList (st, arr) ⟨true, 0, off⟩).1.2.2]) ∧ Took wr f sb ab g s t (tk1 s.data.toList (st, arr) ⟨true, 0, off⟩) w' := by
  have b1 := Blk.made (wr.alloc (.cells #[.pointer (some ⟨g, off, none⟩)] 90)) #[.func (.func 135) #[] #[.pointer (some ⟨wr.heap.size, 0, none⟩)]] 157
  have b2 := (Blk.made wr #[.pointer (some ⟨g, off, none⟩)] 90).alloc (.cells #[.func (.func 135) #[] #[.pointer (some ⟨wr.heap.size, 0, none⟩)]] 157)
  rw [World.size_alloc] at b1
  have kk : Kept wr ((wr.alloc (.cells #[.pointer (some ⟨g, off, none⟩)] 90)).alloc (.cells #[.func (.func 135) #[] #[.pointer (some ⟨wr.heap.size, 0, none⟩)]] 157)) := Kept.alloc (Kept.alloc (Kept.refl wr) _) _
  refine take_parts [⟨true, wr.heap.size, off⟩] _ n (wr.heap.size + 1) f sb ab g t s st arr wr _ hs hst (hT.kept kk) (by simp) h0 hfar kk htk hg (.inr ⟨rfl, by omega, _, b1⟩) ?_
  intro p hp
  simp only [List.mem_cons, List.not_mem_nil, or_false] at hp
  subst hp
  exact ⟨Nat.le_refl _, hoff, _, b2⟩
theorem take_texts (o1 o2 n f sb ab g : Nat) (t : TypeId) (s : ByteArray) (st : List Ev.It × Int × Nat) (arr : Array Value) (wr : World) (hs : s.size ≤ 140737488355328) (hst : Fair st) (hT : Tab wr) (h0 : 0 < n)
    (hfar : Far n f sb ab g) (htk : Tk wr f sb ab s st) (hg : Blk wr g arr t) (ho1 : o1 < arr.size) (ho2 : o2 < arr.size) :
    Calls Tryz.prog 134 #[.slice (some ⟨wr.heap.size + 1 + 1, 0, none⟩) 2 2, .pointer (some ⟨f, 0, none⟩), .pointer (some ⟨sb, 0, none⟩), .pointer (some ⟨ab, 0, none⟩)]
      (((wr.alloc (.cells #[.pointer (some ⟨g, o1, none⟩)] 164)).alloc (.cells #[.pointer (some ⟨g, o2, none⟩)] 164)).alloc (.cells #[.func (.func 148) #[] #[.pointer (some ⟨wr.heap.size, 0, none⟩)], .func (.func 148) #[] #[.pointer (some ⟨wr.heap.size + 1, 0, none⟩)]] 157)) fun e w' =>
      e = .returned (.tuple #[.int .i64 (tk1 s.data.toList (tk1 s.data.toList (st, arr) ⟨false, 0, o1⟩) ⟨false, 0, o2⟩).1.2.1, .int .i64 (tk1 s.data.toList (tk1 s.data.toList (st, arr) ⟨false, 0, o1⟩) ⟨false, 0, o2⟩).1.2.2]) ∧
        Took wr f sb ab g s t (tk1 s.data.toList (tk1 s.data.toList (st, arr) ⟨false, 0, o1⟩) ⟨false, 0, o2⟩) w' := by
  have b1 := Blk.made ((wr.alloc (.cells #[.pointer (some ⟨g, o1, none⟩)] 164)).alloc (.cells #[.pointer (some ⟨g, o2, none⟩)] 164)) #[.func (.func 148) #[] #[.pointer (some ⟨wr.heap.size, 0, none⟩)], .func (.func 148) #[] #[.pointer (some ⟨wr.heap.size + 1, 0, none⟩)]] 157
  have b2 := ((Blk.made wr #[.pointer (some ⟨g, o1, none⟩)] 164).alloc (.cells #[.pointer (some ⟨g, o2, none⟩)] 164)).alloc (.cells #[.func (.func 148) #[] #[.pointer (some ⟨wr.heap.size, 0, none⟩)], .func (.func 148) #[] #[.pointer (some ⟨wr.heap.size + 1, 0, none⟩)]] 157)
  have b3 := (Blk.made (wr.alloc (.cells #[.pointer (some ⟨g, o1, none⟩)] 164)) #[.pointer (some ⟨g, o2, none⟩)] 164).alloc (.cells #[.func (.func 148) #[] #[.pointer (some ⟨wr.heap.size, 0, none⟩)], .func (.func 148) #[] #[.pointer (some ⟨wr.heap.size + 1, 0, none⟩)]] 157)
  rw [World.size_alloc, World.size_alloc] at b1
  rw [World.size_alloc] at b3
  have kk : Kept wr (((wr.alloc (.cells #[.pointer (some ⟨g, o1, none⟩)] 164)).alloc (.cells #[.pointer (some ⟨g, o2, none⟩)] 164)).alloc (.cells #[.func (.func 148) #[] #[.pointer (some ⟨wr.heap.size, 0, none⟩)], .func (.func 148) #[] #[.pointer (some ⟨wr.heap.size + 1, 0, none⟩)]] 157)) := Kept.alloc (Kept.alloc (Kept.alloc (Kept.refl wr) _) _) _
  refine take_parts [⟨false, wr.heap.size, o1⟩, ⟨false, wr.heap.size + 1, o2⟩] _ n (wr.heap.size + 1 + 1) f sb ab g t s st arr wr _ hs hst (hT.kept kk) (by simp) h0 hfar kk htk hg (.inr ⟨rfl, by omega, _, b1⟩) ?_
  intro p hp
  simp only [List.mem_cons, List.not_mem_nil, or_false] at hp
  rcases hp with rfl | rfl
  · exact ⟨Nat.le_refl _, ho1, _, b2⟩
  · exact ⟨Nat.le_succ _, ho2, _, b3⟩
theorem five (w : World) (c0 c1 c2 c3 c4 : Array Value) (t0 t1 t2 t3 t4 : TypeId) :
    Blk (((((w.alloc (.cells c0 t0)).alloc (.cells c1 t1)).alloc (.cells c2 t2)).alloc (.cells c3 t3)).alloc (.cells c4 t4)) w.heap.size c0 t0 ∧
    Blk (((((w.alloc (.cells c0 t0)).alloc (.cells c1 t1)).alloc (.cells c2 t2)).alloc (.cells c3 t3)).alloc (.cells c4 t4)) (w.heap.size + 1) c1 t1 ∧
    Blk (((((w.alloc (.cells c0 t0)).alloc (.cells c1 t1)).alloc (.cells c2 t2)).alloc (.cells c3 t3)).alloc (.cells c4 t4)) (w.heap.size + 1 + 1) c2 t2 ∧
    Blk (((((w.alloc (.cells c0 t0)).alloc (.cells c1 t1)).alloc (.cells c2 t2)).alloc (.cells c3 t3)).alloc (.cells c4 t4)) (w.heap.size + 1 + 1 + 1) c3 t3 ∧
    Blk (((((w.alloc (.cells c0 t0)).alloc (.cells c1 t1)).alloc (.cells c2 t2)).alloc (.cells c3 t3)).alloc (.cells c4 t4)) (w.heap.size + 1 + 1 + 2) c4 t4 := by
  have h0 := Blk.made w c0 t0
  have h1 := Blk.made (w.alloc (.cells c0 t0)) c1 t1
  have h2 := Blk.made ((w.alloc (.cells c0 t0)).alloc (.cells c1 t1)) c2 t2
  have h3 := Blk.made (((w.alloc (.cells c0 t0)).alloc (.cells c1 t1)).alloc (.cells c2 t2)) c3 t3
  have h4 := Blk.made ((((w.alloc (.cells c0 t0)).alloc (.cells c1 t1)).alloc (.cells c2 t2)).alloc (.cells c3 t3)) c4 t4
  simp only [World.size_alloc] at h0 h1 h2 h3 h4
  exact ⟨(((h0.alloc _).alloc _).alloc _).alloc _, ((h1.alloc _).alloc _).alloc _, (h2.alloc _).alloc _, h3.alloc _, h4⟩

theorem ret_ev (R : Nat) (tmps : Array Value) (W : World) (E : Ev.E) (p f : Int) (h4 : tmps[4]?.getD undef = .pointer (some ⟨R, 0, none⟩)) (h5 : tmps[5]?.getD undef = .int .i64 p) (h6 : tmps[6]?.getD undef = .int .i64 f) (hb : Blk W R (evc E) 23) :
    (results Tryz.f141 tmps).run Tryz.prog W = .ok (.tuple #[evv E, .int .i64 p, .int .i64 f]) W := by
  unfold evc at hb
  have c0 := hb.cell 0
  have c1 := hb.cell 1
  have c2 := hb.cell 2
  have c3 := hb.cell 3
  have c4 := hb.cell 4
  simp only [List.getElem?_toArray, List.getElem?_cons_zero, List.getElem?_cons_succ] at c0 c1 c2 c3 c4
  simp [results, Tryz.f141, go_sem, h4, h5, h6, c0, c1, c2, c3, c4, evv]
theorem set_ev (R : Nat) (w : World) (E D : Ev.E) (hb : Blk w R (evc E) 23) :
    Blk (((((w.setCell ⟨R, 0, none⟩ (.int .i64 D.o)).setCell ⟨R, 1, none⟩ (.int .i64 D.s)).setCell ⟨R, 2, none⟩ (.string D.t)).setCell ⟨R, 3, none⟩ (.string D.l)).setCell ⟨R, 4, none⟩ (.int .i64 D.d)) R (evc D) 23 :=
  ((((hb.set 0 (.int .i64 D.o)).set 1 (.int .i64 D.s)).set 2 (.string D.t)).set 3 (.string D.l)).set 4 (.int .i64 D.d)
theorem set_kept (R : Nat) (a w : World) (v0 v1 v2 v3 v4 : Value) (h : Kept a w) (hR : a.heap.size ≤ R) :
    Kept a (((((w.setCell ⟨R, 0, none⟩ v0).setCell ⟨R, 1, none⟩ v1).setCell ⟨R, 2, none⟩ v2).setCell ⟨R, 3, none⟩ v3).setCell ⟨R, 4, none⟩ v4) :=
  ((((Below.setCell h (p := ⟨R, 0, none⟩) hR _).setCell (p := ⟨R, 1, none⟩) hR _).setCell (p := ⟨R, 2, none⟩) hR _).setCell (p := ⟨R, 3, none⟩) hR _).setCell (p := ⟨R, 4, none⟩) hR _
theorem idx0 (a b c : Option Addr) (w : World) : (Instr.index 160 (.agg #[.pointer a, .pointer b, .pointer c]) (.int .i64 0)).run Tryz.prog w = .ok (.pointer a) w := by kernel_rfl
theorem idx1 (a b c : Option Addr) (w : World) : (Instr.index 160 (.agg #[.pointer a, .pointer b, .pointer c]) (.int .i64 1)).run Tryz.prog w = .ok (.pointer b) w := by kernel_rfl
theorem idx2 (a b c : Option Addr) (w : World) : (Instr.index 160 (.agg #[.pointer a, .pointer b, .pointer c]) (.int .i64 2)).run Tryz.prog w = .ok (.pointer c) w := by kernel_rfl

set_option maxHeartbeats 2000000 in
set_option maxRecDepth 100000 in
theorem evget_any (s : ByteArray) (a : Int) (w : World) (hs : s.size ≤ 140737488355328) (h1 : -9223372036854775808 ≤ a) (h2 : a ≤ 9223372036854775807) (hT : Tab w) :
    Calls Tryz.prog 141 #[.string s, .int .i64 a] w fun r w' => r = .returned (tupe (Ev.get s.data.toList a)) ∧ Kept w w' := by
  have Hsl := Lib.hid (size_len s)
  have h0 := hT.size
  have HT := Lib.hid hT
  clear hT
  go_enter Tryz.func141, Tryz.ntmps141
  go_wp2_with fail
  refine (taker_any s a _).mono ?_
  rintro r w1 ⟨rfl, rfl⟩
  simp only [World.size_alloc]
  go_wp2_with fail
  have H5 := Lib.hid (five w #[.int .i64 0, .int .i64 0, .string ⟨#[]⟩, .string ⟨#[]⟩, .int .i64 0] #[.int .i64 0, .int .i64 0, .string ⟨#[]⟩, .string ⟨#[]⟩, .int .i64 0] #[.string s] #[.int .i64 a] #[.int .i64 0] 23 23 9 3 34)
  refine (numbers_any (w.heap.size + 1) _ (.int .i64 0) (H5.out.2.1.cell 0)).mono ?_
  rintro r w6 ⟨rfl, k6⟩
  obtain ⟨b0, b1, b2, b3, b4⟩ := H5.out
  have hk5 : Kept w (((((w.alloc (.cells #[.int .i64 0, .int .i64 0, .string ⟨#[]⟩, .string ⟨#[]⟩, .int .i64 0] 23)).alloc (.cells #[.int .i64 0, .int .i64 0, .string ⟨#[]⟩, .string ⟨#[]⟩, .int .i64 0] 23)).alloc (.cells #[.string s] 9)).alloc (.cells #[.int .i64 a] 3)).alloc (.cells #[.int .i64 0] 34)) :=
    ((((Kept.refl w).alloc _).alloc _).alloc _).alloc _ |>.alloc _
  have K6 := Lib.hid (hk5.trans k6)
  have B0 := Lib.hid (b0.kept k6)
  have B1 := Lib.hid (b1.kept k6)
  have hTk0 : Tk w6 (w.heap.size + 1 + 1 + 2) (w.heap.size + 1 + 1) (w.heap.size + 1 + 1 + 1) s ([], a, 0) := ⟨b4.kept k6, b2.kept k6, b3.kept k6⟩
  have HTk0 := Lib.hid hTk0
  have HT6 := Lib.hid (HT.out.kept K6.out)
  clear H5 b0 b1 b2 b3 b4 hk5 k6 hTk0
  obtain ⟨R, hR⟩ : ∃ R, R = w.heap.size := ⟨_, rfl⟩
  rw [← hR] at h0 HTk0 B0 B1 ⊢
  have HR := Lib.hid hR
  clear hR
  have hfar : Far R (R + 1 + 1 + 2) (R + 1 + 1) (R + 1 + 1 + 1) (R + 1) := by constructor <;> omega
  have HF := Lib.hid hfar
  clear hfar
  go_wp2
  go_loopw [10, 17] (fun _ i wr => ∃ k : Nat, k ≤ 3 ∧ i = .int .i64 k ∧ Took w6 (R + 1 + 1 + 2) (R + 1 + 1) (R + 1 + 1 + 1) (R + 1) s 23 (got s.data.toList a k) wr) (fun _ i _ => 3 - (intOf i).toNat)
  case atStart => exact ⟨0, by omega, rfl, HTk0.out, B1.out, But.refl _ _⟩
  case round =>
    obtain ⟨k, hk, rfl, htk⟩ := hrel
    have hTr : Tab wr := HT6.out.but htk.2.2 (by rintro (h | h | h) <;> omega)
    have hfair := got_fair s.data.toList (by rw [Hsl.out]; omega) a h1 h2 k
    have hgs := got_size s.data.toList a k
    have HTr := Lib.hid hTr
    have Hfair := Lib.hid hfair
    have Hgs := Lib.hid hgs
    have Htk := Lib.hid htk
    clear hTr hfair hgs htk
    by_cases hlt : k < 3
    · obtain ⟨off, hoff, ho5, hnx⟩ : ∃ off : Nat, (k = 0 ∧ off = 0 ∨ k = 1 ∧ off = 1 ∨ k = 2 ∧ off = 4) ∧ off < 5 ∧ tk1 s.data.toList (got s.data.toList a k) ⟨true, 0, off⟩ = got s.data.toList a (k + 1) := by
        match k, hlt with
        | 0, _ => exact ⟨0, by omega, by omega, (tk_snoc s.data.toList _ P5 0 (by decide)).symm⟩
        | 1, _ => exact ⟨1, by omega, by omega, (tk_snoc s.data.toList _ P5 1 (by decide)).symm⟩
        | 2, _ => exact ⟨4, by omega, by omega, (tk_snoc s.data.toList _ P5 2 (by decide)).symm⟩
      have Hnx := Lib.hid hnx
      clear hnx
      rcases hoff with ⟨rfl, rfl⟩ | ⟨rfl, rfl⟩ | ⟨rfl, rfl⟩
      · have hix := idx0
        go_wp2_with fail
        refine (number_any _ _ _).mono ?_
        rintro r w7 ⟨rfl, rfl⟩
        clear hix
        go_wp2_with fail
        refine (take_num 0 R (R + 1 + 1 + 2) (R + 1 + 1) (R + 1 + 1 + 1) (R + 1) 23 s _ _ wr hs Hfair.out HTr.out h0 HF.out Htk.out.1 Htk.out.2.1 (by rw [Hgs.out]; omega)).mono ?_
        rintro r w8 ⟨rfl, t8⟩
        have h8 := Htk.out.step t8
        rw [Hnx.out] at h8
        have H8 := Lib.hid h8
        clear t8 h8
        go_wp2
        go_roundw
        case rel => exact ⟨1, by omega, rfl, H8.out⟩
        case measure => simp [intOf]
      · have hix := idx1
        go_wp2_with fail
        refine (number_any _ _ _).mono ?_
        rintro r w7 ⟨rfl, rfl⟩
        clear hix
        go_wp2_with fail
        refine (take_num 1 R (R + 1 + 1 + 2) (R + 1 + 1) (R + 1 + 1 + 1) (R + 1) 23 s _ _ wr hs Hfair.out HTr.out h0 HF.out Htk.out.1 Htk.out.2.1 (by rw [Hgs.out]; omega)).mono ?_
        rintro r w8 ⟨rfl, t8⟩
        have h8 := Htk.out.step t8
        rw [Hnx.out] at h8
        have H8 := Lib.hid h8
        clear t8 h8
        go_wp2
        go_roundw
        case rel => exact ⟨2, by omega, rfl, H8.out⟩
        case measure => simp [intOf]
      · have hix := idx2
        go_wp2_with fail
        refine (number_any _ _ _).mono ?_
        rintro r w7 ⟨rfl, rfl⟩
        clear hix
        go_wp2_with fail
        refine (take_num 4 R (R + 1 + 1 + 2) (R + 1 + 1) (R + 1 + 1 + 1) (R + 1) 23 s _ _ wr hs Hfair.out HTr.out h0 HF.out Htk.out.1 Htk.out.2.1 (by rw [Hgs.out]; omega)).mono ?_
        rintro r w8 ⟨rfl, t8⟩
        have h8 := Htk.out.step t8
        rw [Hnx.out] at h8
        have H8 := Lib.hid h8
        clear t8 h8
        go_wp2
        go_roundw
        case rel => exact ⟨3, by omega, rfl, H8.out⟩
        case measure => simp [intOf]
    · obtain rfl : k = 3 := by omega
      go_wp2_with fail
      refine (text_any' _ _ _).mono ?_
      rintro r w7 ⟨rfl, rfl⟩
      go_wp2_with fail
      refine (text_any' _ _ _).mono ?_
      rintro r w7 ⟨rfl, rfl⟩
      simp only [World.size_alloc]
      go_wp2_with fail
      refine (take_texts 2 3 R (R + 1 + 1 + 2) (R + 1 + 1) (R + 1 + 1 + 1) (R + 1) 23 s _ _ wr hs Hfair.out HTr.out h0 HF.out Htk.out.1 Htk.out.2.1 (by rw [Hgs.out]; omega) (by rw [Hgs.out]; omega)).mono ?_
      rintro r w8 ⟨rfl, t8⟩
      have h8 := Htk.out.step t8
      have e5 : tk1 s.data.toList (tk1 s.data.toList (got s.data.toList a 3) ⟨false, 0, 2⟩) ⟨false, 0, 3⟩ = got s.data.toList a 5 :=
        (congrArg (fun z => tk1 s.data.toList z ⟨false, 0, 3⟩) (tk_snoc s.data.toList _ P5 3 (by decide)).symm).trans (tk_snoc s.data.toList _ P5 4 (by decide)).symm
      rw [show ((got s.data.toList a 3).1, (got s.data.toList a 3).2) = got s.data.toList a 3 from rfl, e5] at h8 ⊢
      have hgot : (got s.data.toList a 5).1 = Ev.igets Ev.kinds s.data.toList a := got_five _ _
      have hev := got_event s.data.toList a
      have hfr5 := got_fair s.data.toList (by rw [Hsl.out]; omega) a h1 h2 5
      have hget : Ev.get s.data.toList a = if (got s.data.toList a 5).1.2.2 ≠ 0 then (.zero, 0, (got s.data.toList a 5).1.2.2) else if Ev.right (Ev.ofIts (got s.data.toList a 5).1.1) then (Ev.ofIts (got s.data.toList a 5).1.1, (got s.data.toList a 5).1.2.1.toNat, 0) else (.zero, 0, 4) := by rw [hgot]; rfl
      have hpos : (got s.data.toList a 5).1.2.2 = 0 → 0 ≤ (got s.data.toList a 5).1.2.1 := by
        rw [hgot]
        intro he
        exact Ev.igets_pos s.data.toList a he
      obtain ⟨⟨⟨its, p, e⟩, arr⟩, hy⟩ : ∃ y, y = got s.data.toList a 5 := ⟨_, rfl⟩
      rw [← hy] at h8 hev hget hpos hfr5 ⊢
      simp only at hev hget hpos ⊢
      clear hgot e5
      obtain ⟨q0, q1, q2⟩ := hfr5
      simp only at q0 q1 q2
      have kw : Kept w w8 := But.after K6.out h8.2.2 (fun i hi => by rw [← HR.out] at hi; rintro (h | h | h) <;> omega)
      have KW := Lib.hid kw
      have bR := B0.out.but h8.2.2 (by rintro (h | h | h) <;> omega)
      have r0 := bR.cell 0
      have r1 := bR.cell 1
      have r2 := bR.cell 2
      have r3 := bR.cell 3
      have r4 := bR.cell 4
      have f0 := bR.frozen 0
      have f1 := bR.frozen 1
      have f2 := bR.frozen 2
      have f3 := bR.frozen 3
      have f4 := bR.frozen 4
      simp only [List.getElem?_toArray, List.getElem?_cons_zero, List.getElem?_cons_succ] at r0 r1 r2 r3 r4
      have HG := Lib.hid h8.2.1
      have Hget := Lib.hid hget
      have BR := Lib.hid bR
      have hRw : w.heap.size ≤ R := by rw [HR.out]; exact Nat.le_refl _
      clear h8 hy kw bR hget
      by_cases he : e = 0
      · subst he
        obtain ⟨g1, g2⟩ := hev rfl
        have hp := hpos rfl
        rw [g1] at HG
        obtain ⟨E, hE⟩ : ∃ E, E = Ev.ofIts its := ⟨_, rfl⟩
        rw [← hE] at HG g2 Hget
        clear hE g1 hev hpos
        unfold evc at HG
        have c0 := HG.out.cell 0
        have c1 := HG.out.cell 1
        have c2 := HG.out.cell 2
        have c3 := HG.out.cell 3
        have c4 := HG.out.cell 4
        simp only [List.getElem?_toArray, List.getElem?_cons_zero, List.getElem?_cons_succ] at c0 c1 c2 c3 c4
        have G2 := Lib.hid g2
        clear g2
        go_wp2_with fail
        refine (evright_any E w8 G2.out).mono ?_
        rintro r w9 ⟨rfl, k9⟩
        have bR := BR.out.kept k9
        have bG := HG.out.kept k9
        have kw9 := KW.out.trans k9
        clear r0 r1 r2 r3 r4 f0 f1 f2 f3 f4 c0 c1 c2 c3 c4
        have r0 := bR.cell 0
        have r1 := bR.cell 1
        have r2 := bR.cell 2
        have r3 := bR.cell 3
        have r4 := bR.cell 4
        have f0 := bR.frozen 0
        have f1 := bR.frozen 1
        have f2 := bR.frozen 2
        have f3 := bR.frozen 3
        have f4 := bR.frozen 4
        have c0 := bG.cell 0
        have c1 := bG.cell 1
        have c2 := bG.cell 2
        have c3 := bG.cell 3
        have c4 := bG.cell 4
        simp only [List.getElem?_toArray, List.getElem?_cons_zero, List.getElem?_cons_succ] at c0 c1 c2 c3 c4 r0 r1 r2 r3 r4
        have BR9 := Lib.hid bR
        have KW9 := Lib.hid kw9
        clear bR bG kw9 k9
        have hget := Hget.out
        clear Hget
        generalize Ev.right E = B at hget ⊢
        cases B
        · have Hget := Lib.hid hget
          clear hget
          go_wp2
          refine bodyPost_ret (ret_ev R _ _ .zero _ _ rfl rfl rfl (set_ev R _ .zero .zero BR9.out)) rfl ⟨?_, set_kept R _ _ _ _ _ _ _ KW9.out hRw⟩
          rw [Hget.out]
          rfl
        · have Hget := Lib.hid hget
          clear hget
          go_wp2
          refine bodyPost_ret (ret_ev R _ _ E _ _ rfl rfl rfl (set_ev R _ .zero E BR9.out)) rfl ⟨?_, set_kept R _ _ _ _ _ _ _ KW9.out hRw⟩
          rw [Hget.out]
          simp only [tupe, ne_eq, not_true_eq_false, if_false, if_true]
          rw [Int.toNat_of_nonneg hp]
          rfl
      · have he2 : ((e : Int) == 0) = false := by simp only [beq_eq_false_iff_ne]; omega
        have he3 : ((e : Int) != 0) = true := by simp [bne, he2]
        clear hev hpos
        go_wp2
        refine bodyPost_ret (ret_ev R _ _ .zero _ _ rfl rfl rfl (set_ev R _ .zero .zero BR.out)) rfl ⟨?_, set_kept R _ _ _ _ _ _ _ KW.out hRw⟩
        rw [Hget.out, if_pos he]
        rfl
end Go.Proofs.YtlfmpoinjbmjoaaGreatDoor
