/-
  What a step does to a trie in memory: a node more, a node less, another count.
-/
import Derived.Test.YtalebnhkidhglaaGreatRnode
namespace Go.Proofs.YtalebnhkidhglaaGreat
open Go.ChangeShapes Go.WideShapes Go.ChangeAt Go.RowKit Go.Maps

def Good (p : Path) : Prop := p.length ≤ 8 ∧ ∀ x ∈ p, x ≠ [] ∧ x.length ≤ 16 ∧ ∀ c ∈ x, c ≠ 47

theorem snoc_inj {p q : Path} {x y : List UInt8} (h : p ++ [x] = q ++ [y]) : p = q ∧ x = y := by
  have := List.append_inj' h rfl
  exact ⟨this.1, by simpa using this.2⟩

theorem Moves.upto {N N' : Path → Option Loc} {q r : Path} {w w' : World} (h : Moves N N' r w w') (hq : q <+: r) : Moves N N' q w w' :=
  ⟨h.but.mono (fun _ _ ⟨s, l, h1, h2⟩ => ⟨s, l, hq.trans h1, h2⟩), fun s hs => h.same s (fun ⟨h1, h2⟩ => hs ⟨hq.trans h1, fun e => by
    subst e
    exact h2 (hq.eq_of_length (Nat.le_antisymm hq.length_le h1.length_le))⟩), h.sub⟩
theorem TrieAt.cell_no {w : World} {n : Nat} {N : Path → Option Loc} {A : Path → Int → Nat} (h : TrieAt w n N A) {g o : Nat} {v : Value} (hc : w.cell? ⟨g, o, none⟩ = some v) (hv : ∀ b, v ≠ .map b) : ¬ Of N g := by
  rintro ⟨r, l, hr, e⟩
  have hn := h.node r l hr
  rcases e with rfl | rfl | rfl
  · simp only [World.cell?, hn.cells] at hc
    match o, hc with
    | 0, hc => simp at hc; exact hv _ hc.symm
    | 1, hc => simp at hc; exact hv _ hc.symm
    | o + 2, hc => simp at hc
  · obtain ⟨es, k, hk⟩ := hn.kids.obj; simp [World.cell?, hk] at hc
  · obtain ⟨es, k, hk⟩ := hn.asks.obj; simp [World.cell?, hk] at hc

theorem TrieAt.plant {w w1 w2 : World} {n : Nat} {N : Path → Option Loc} {A : Path → Int → Nat} {q : Path} {m l : Loc} {x : List UInt8} (hT : TrieAt w n N A) (hq : N q = some m) (hx : N (q ++ [x]) = none) (hg : Good (q ++ [x]))
    (k1 : Kept w w1) (hl : NodeAt w1 0 l (fun _ => none) (fun _ => 0)) (hb : w.heap.size ≤ l.b) (hc : w.heap.size ≤ l.c) (ha : w.heap.size ≤ l.a) (hca : l.c ≠ l.a)
    (hk : KidMap w2 (n + 1) m.c (upd (fun y => (N (q ++ [y])).map Loc.b) x (some l.b))) (g : w1.grownBy w2 (some m.c)) :
    TrieAt w2 (n + 1) (upd N (q ++ [x]) (some l)) A ∧ Moves N (upd N (q ++ [x]) (some l)) q w w2 := by
  have hm := hT.node q m hq
  have hT1 := hT.kept k1
  have g' := but_grown g
  have mc : m.c < w.heap.size := hm.kids.lt
  have new_ne : ∀ r lr, N r = some lr → lr.b < w.heap.size ∧ lr.c < w.heap.size ∧ lr.a < w.heap.size := fun r lr hr => ⟨heap_lt (hT.node r lr hr).cells, (hT.node r lr hr).kids.lt, (hT.node r lr hr).asks.lt⟩
  refine ⟨⟨fun r lr hr => ?_, ?_, fun r y lr hr => ?_, fun r lr hr => ?_, fun r hr i => ?_, fun r i => ?_, fun r s lr ls hr hs => ?_⟩, ⟨?_, fun r hr => ?_, fun r lr hr => ?_⟩⟩
  · by_cases e : r = q ++ [x]
    · subst e
      rw [upd_same] at hr
      cases hr
      have h1 := (hl.but g' (by show l.b ≠ m.c; omega) (by show l.c ≠ m.c; omega) (by show l.a ≠ m.c; omega)).mono (Nat.zero_le (n + 1))
      have e1 : (fun y => (upd N (q ++ [x]) (some l) (q ++ [x] ++ [y])).map Loc.b) = fun _ => none := funext fun y => by
        rw [upd_other _ _ (fun e => by have := congrArg List.length e; simp at this)]
        rw [hT.none_on [y] _ hx]; rfl
      have e2 : A (q ++ [x]) = fun _ => 0 := funext fun i => hT.out _ hx i
      rw [e1, e2]
      exact h1
    · rw [upd_other _ _ e] at hr
      have hr1 := hT1.node r lr hr
      by_cases e' : r = q
      · subst e'
        rw [hq] at hr; cases hr
        have bc := hr1.bc hr1.kids.obj
        refine ⟨g'.at hr1.cells bc, ?_, (hr1.asks.but g' (fun h => (hT.inj r r m m hq hq).2.2 h.symm)).mono (Nat.le_succ n)⟩
        refine hk.congr fun y => ?_
        by_cases ey : y = x
        · subst ey; rw [upd_same, upd_same]; rfl
        · rw [upd_other _ _ ey, upd_other _ _ (fun h => ey (snoc_inj h).2)]
      · have e1 : (fun y => (upd N (q ++ [x]) (some l) (r ++ [y])).map Loc.b) = fun y => (N (r ++ [y])).map Loc.b := funext fun y => by
          rw [upd_other _ _ (fun h => e' (snoc_inj h).1)]
        rw [e1]
        refine (hr1.but g' (fun h => ?_) (fun h => e' ((hT.inj r q lr m hr hq).1 h)) (fun h => (hT.inj q r m lr hq hr).2.2 h.symm)).mono (Nat.le_succ n)
        exact hr1.bc (by obtain ⟨es, k, h3⟩ := hm.kids.obj; exact ⟨es, k, (Below.block k1 _ mc).trans h3⟩) h
  · obtain ⟨l0, h0⟩ := hT.root
    exact ⟨l0, by rw [upd_other _ _ (fun e => by have := congrArg List.length e; simp at this)]; exact h0⟩
  · by_cases e : r ++ [y] = q ++ [x]
    · obtain ⟨rfl, rfl⟩ := snoc_inj e
      exact ⟨m, by rw [upd_other _ _ (fun e => by have := congrArg List.length e; simp at this)]; exact hq⟩
    · rw [upd_other _ _ e] at hr
      obtain ⟨m', hm'⟩ := hT.up r y lr hr
      refine ⟨m', ?_⟩
      rw [upd_other]
      · exact hm'
      · rintro rfl; rw [hx] at hm'; cases hm'
  · by_cases e : r = q ++ [x]
    · subst e; exact hg
    · rw [upd_other _ _ e] at hr; exact hT.good r lr hr
  · by_cases e : r = q ++ [x]
    · subst e; exact hT.out _ hx i
    · rw [upd_other _ _ e] at hr; exact hT.out r hr i
  · exact Nat.le_succ_of_le (hT.few r i)
  · by_cases e : r = q ++ [x]
    · subst e
      rw [upd_same] at hr
      cases hr
      by_cases e2 : s = q ++ [x]
      · subst e2
        rw [upd_same] at hs
        cases hs
        exact ⟨fun _ => rfl, fun _ => rfl, hca⟩
      · rw [upd_other _ _ e2] at hs
        have := new_ne s ls hs
        exact ⟨fun h => absurd h (by omega), fun h => absurd h (by omega), by omega⟩
    · rw [upd_other _ _ e] at hr
      by_cases e2 : s = q ++ [x]
      · subst e2
        rw [upd_same] at hs
        cases hs
        have := new_ne r lr hr
        exact ⟨fun h => absurd h (by omega), fun h => absurd h (by omega), by omega⟩
      · rw [upd_other _ _ e2] at hs
        exact hT.inj r s lr ls hr hs
  · exact (Kept.but k1).trans g' (fun i _ h => ⟨q, m, List.prefix_refl q, hq, .inl h⟩)
  · rw [upd_other]
    rintro rfl
    exact hr ⟨List.prefix_append _ _, fun e => by have := congrArg List.length e; simp at this⟩
  · by_cases e : r = q ++ [x]
    · subst e
      rw [upd_same] at hr
      cases hr
      exact .inr ⟨hb, hc, ha⟩
    · rw [upd_other _ _ e] at hr; exact .inl hr

theorem TrieAt.ask {w w2 : World} {n n2 : Nat} {N : Path → Option Loc} {A : Path → Int → Nat} {q : Path} {m : Loc} {ask : Int → Nat} (hT : TrieAt w n N A) (hq : N q = some m) (hn : n ≤ n2)
    (hk : AskMap w2 n2 m.a ask) (hle : ∀ i, ask i ≤ n2) (g : But (fun i => i = m.a) w w2) :
    TrieAt w2 n2 N (upd A q ask) ∧ Moves N N q w w2 := by
  refine ⟨⟨fun r lr hr => ?_, hT.root, hT.up, hT.good, fun r hr i => ?_, fun r i => ?_, hT.inj⟩, ⟨?_, fun r hr => rfl, fun r lr hr => .inl hr⟩⟩
  · have hr1 := hT.node r lr hr
    by_cases e : r = q
    · subst e
      rw [hq] at hr; cases hr
      rw [upd_same]
      exact ⟨g.at hr1.cells (hr1.bc hr1.asks.obj), (hr1.kids.but g ((hT.inj r r m m hq hq).2.2)).mono hn, hk⟩
    · rw [upd_other _ _ e]
      exact (hr1.but g (hr1.bc (hT.node q m hq).asks.obj) ((hT.inj r q lr m hr hq).2.2) (fun h => e ((hT.inj r q lr m hr hq).2.1 h))).mono hn
  · rw [upd_other]
    · exact hT.out r hr i
    · rintro rfl; rw [hq] at hr; cases hr
  · by_cases e : r = q
    · subst e; rw [upd_same]; exact hle i
    · rw [upd_other _ _ e]; exact Nat.le_trans (hT.few r i) hn
  · exact g.mono (fun i _ h => ⟨q, m, List.prefix_refl q, hq, .inr h⟩)

theorem TrieAt.cut {w w2 : World} {n : Nat} {N : Path → Option Loc} {A : Path → Int → Nat} {q : Path} {m l : Loc} {x : List UInt8} (hT : TrieAt w n N A) (hq : N q = some m) (hx : N (q ++ [x]) = some l) (hy : ∀ y, N (q ++ [x] ++ [y]) = none)
    (h0 : ∀ i, A (q ++ [x]) i = 0) (hk : KidMap w2 n m.c (upd (fun y => (N (q ++ [y])).map Loc.b) x none)) (g : But (fun i => i = m.c) w w2) :
    TrieAt w2 n (upd N (q ++ [x]) none) A ∧ Moves N (upd N (q ++ [x]) none) q w w2 := by
  refine ⟨⟨fun r lr hr => ?_, ?_, fun r y lr hr => ?_, fun r lr hr => ?_, fun r hr i => ?_, hT.few, fun r s lr ls hr hs => ?_⟩, ⟨?_, fun r hr => ?_, fun r lr hr => ?_⟩⟩
  · by_cases e : r = q ++ [x]
    · subst e; rw [upd_same] at hr; cases hr
    · rw [upd_other _ _ e] at hr
      have hr1 := hT.node r lr hr
      by_cases e' : r = q
      · subst e'
        rw [hq] at hr; cases hr
        refine ⟨g.at hr1.cells (hr1.bc hr1.kids.obj), ?_, hr1.asks.but g (fun h => (hT.inj r r m m hq hq).2.2 h.symm)⟩
        refine hk.congr fun y => ?_
        by_cases ey : y = x
        · subst ey; rw [upd_same, upd_same]; rfl
        · rw [upd_other _ _ ey, upd_other _ _ (fun h => ey (snoc_inj h).2)]
      · have e1 : (fun y => (upd N (q ++ [x]) none (r ++ [y])).map Loc.b) = fun y => (N (r ++ [y])).map Loc.b := funext fun y => by
          rw [upd_other _ _ (fun h => e' (snoc_inj h).1)]
        rw [e1]
        exact hr1.but g (hr1.bc (hT.node q m hq).kids.obj) (fun h => e' ((hT.inj r q lr m hr hq).1 h)) (fun h => (hT.inj q r m lr hq hr).2.2 h.symm)
  · obtain ⟨l0, h0⟩ := hT.root
    exact ⟨l0, by rw [upd_other _ _ (fun e => by have := congrArg List.length e; simp at this)]; exact h0⟩
  · by_cases e : r ++ [y] = q ++ [x]
    · rw [e, upd_same] at hr; cases hr
    · rw [upd_other _ _ e] at hr
      obtain ⟨m', hm'⟩ := hT.up r y lr hr
      refine ⟨m', ?_⟩
      rw [upd_other]
      · exact hm'
      · rintro rfl; rw [hy] at hr; cases hr
  · by_cases e : r = q ++ [x]
    · subst e; rw [upd_same] at hr; cases hr
    · rw [upd_other _ _ e] at hr; exact hT.good r lr hr
  · by_cases e : r = q ++ [x]
    · subst e; exact h0 i
    · rw [upd_other _ _ e] at hr; exact hT.out r hr i
  · by_cases e : r = q ++ [x]
    · subst e; rw [upd_same] at hr; cases hr
    · by_cases e2 : s = q ++ [x]
      · subst e2; rw [upd_same] at hs; cases hs
      · rw [upd_other _ _ e] at hr; rw [upd_other _ _ e2] at hs; exact hT.inj r s lr ls hr hs
  · exact g.mono (fun i _ h => ⟨q, m, List.prefix_refl q, hq, .inl h⟩)
  · rw [upd_other]
    rintro rfl
    exact hr ⟨List.prefix_append _ _, fun e => by have := congrArg List.length e; simp at this⟩
  · by_cases e : r = q ++ [x]
    · subst e; rw [upd_same] at hr; cases hr
    · rw [upd_other _ _ e] at hr; exact .inl hr
end Go.Proofs.YtalebnhkidhglaaGreat
