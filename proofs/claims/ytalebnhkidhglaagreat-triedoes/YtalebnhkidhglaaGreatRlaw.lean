/-
  What the laws of layer 4 share: tries from the world in which a law began, who asks as a list, rows of numbers told apart.
-/
import Derived.Test.YtalebnhkidhglaaGreatRtrie3
namespace Go.Proofs.YtalebnhkidhglaaGreat
open Go.ChangeShapes Go.WideShapes Go.ChangeAt Go.RowKit Go.Maps

theorem OwnI.kept {w w' : World} {base : Nat} {v : Value} {xs : List Int} (h : OwnI w base v xs) (k : Kept w w') : OwnI w' base v xs := own_kept h k
theorem OwnI.moves {w w' : World} {base n : Nat} {v : Value} {xs : List Int} {N N' : Path → Option Loc} {A : Path → Int → Nat} {q : Path} (h : OwnI w base v xs) (hT : TrieAt w n N A) (hM : Moves N N' q w w') : OwnI w' base v xs := by
  refine row_but h hM.but (fun i hi hu => ?_)
  rcases h.2 with ⟨rfl, _⟩ | ⟨g, cap, cur, rfl, _, hg, _⟩
  · cases hi
  · cases hi
    exact hT.other hg ⟨fun _ _ e => (by cases e), fun _ _ e => (by cases e)⟩ hu.of
theorem OwnS.moves {w w' : World} {base n : Nat} {v : Value} {xs : List (List UInt8)} {N N' : Path → Option Loc} {A : Path → Int → Nat} {q : Path} (h : OwnS w base v xs) (hT : TrieAt w n N A) (hM : Moves N N' q w w') : OwnS w' base v xs := by
  refine row_but h hM.but (fun i hi hu => ?_)
  rcases h.2 with ⟨rfl, _⟩ | ⟨g, cap, cur, rfl, _, hg, _⟩
  · cases hi
  · cases hi
    exact hT.other hg ⟨fun _ _ e => (by cases e), fun _ _ e => (by cases e)⟩ hu.of

/-- two tries have nothing in common -/
def Apart (N N2 : Path → Option Loc) : Prop := ∀ i, Of N i → ¬ Of N2 i
theorem Apart.symm {N N2 : Path → Option Loc} (h : Apart N N2) : Apart N2 N := fun i hi hj => h i hj hi
theorem Apart.moves {N N' N2 : Path → Option Loc} {w w' : World} {q : Path} {n : Nat} {A2 : Path → Int → Nat} (h : Apart N N2) (hM : Moves N N' q w w') (hT : TrieAt w n N2 A2) : Apart N' N2 := fun _ hi hj => h _ (hM.of (hT.lt hj) hi) hj
theorem Tri.other {w w' : World} {n t n2 t2 : Nat} {N N' N2 : Path → Option Loc} {A A2 : Path → Int → Nat} {q : Path} (h2 : Tri w n2 t2 N2 A2) (h : Tri w n t N A) (ha : Apart N N2) (hM : Moves N N' q w w') : Tri w' n2 t2 N2 A2 := by
  refine h2.but hM.but (fun i hi hu => ?_)
  rcases hi with hi | rfl
  · exact ha i hu.of hi
  · obtain ⟨l, _, ht⟩ := h2.obj
    exact h.trie.other ht ⟨fun _ _ e => (by cases e), fun _ _ e => (by cases e)⟩ hu.of

/-- a trie of the law's own -/
structure Tr (w0 w : World) (n t : Nat) (N : Path → Option Loc) (A : Path → Int → Nat) : Prop where
  tri : Tri w n t N A
  own : ∀ i, Of N i → w0.heap.size ≤ i
theorem Tr.kept {w0 w w' : World} {n t : Nat} {N : Path → Option Loc} {A : Path → Int → Nat} (h : Tr w0 w n t N A) (k : Kept w w') : Tr w0 w' n t N A := ⟨h.tri.kept k, h.own⟩
theorem Tr.mono {w0 w : World} {n n' t : Nat} {N : Path → Option Loc} {A : Path → Int → Nat} (h : Tr w0 w n t N A) (hn : n ≤ n') : Tr w0 w n' t N A := ⟨h.tri.mono hn, h.own⟩
theorem Tr.next {w0 w w' : World} {n n' t : Nat} {N N' : Path → Option Loc} {A A' : Path → Int → Nat} (h : Tr w0 w n t N A) (k : Kept w0 w) (hT : Tri w' n' t N' A') (hM : Moves N N' [] w w') : Tr w0 w' n' t N' A' ∧ Kept w0 w' := by
  refine ⟨⟨hT, fun i hi => ?_⟩, But.after k hM.but (fun i hi hu => by have := h.own i hu.of; omega)⟩
  by_cases e : i < w.heap.size
  · exact h.own i (hM.of e hi)
  · have := k.size
    omega

theorem new_from {w0 w : World} (k : Kept w0 w) : Calls Tryz.prog 5 #[] w fun e w' => ∃ t N, e = .returned (.pointer (some ⟨t, 0, none⟩)) ∧ Tr w0 w' 0 t N (fun _ _ => 0) ∧ Kept w0 w' ∧ Kept w w' ∧ ∀ i, Of N i → w.heap.size ≤ i :=
  (new_any w).mono fun _ _ ⟨t, N, h1, h2, h3, h4⟩ => ⟨t, N, h1, ⟨h2, fun i hi => Nat.le_trans k.size (h4 i (.inl hi))⟩, k.trans h3, h3, fun i hi => h4 i (.inl hi)⟩
theorem add_from {w0 w : World} (k : Kept w0 w) {n t : Nat} {N : Path → Option Loc} {A : Path → Int → Nat} (h : Tr w0 w n t N A) (hn : n ≤ 1000000) (f : ByteArray) (hf : f.size ≤ 1000) (i : Int) (hi : (Lit.int .i64 i).wf = true) :
    Calls Tryz.prog 7 #[.pointer (some ⟨t, 0, none⟩), .string f, .int .i64 i] w fun e w' => e = .returned (addV A f.data.toList i) ∧ ∃ N', Tr w0 w' (n + 9) t N' (addA A f.data.toList i) ∧ Kept w0 w' ∧ Moves N N' [] w w' :=
  (Add_any w n t hn N A h.tri f hf i hi).mono fun _ _ ⟨h1, N', h2, h3⟩ => ⟨h1, N', (h.next k h2 h3).1, (h.next k h2 h3).2, h3⟩
theorem drop_from {w0 w : World} (k : Kept w0 w) {n t : Nat} {N : Path → Option Loc} {A : Path → Int → Nat} (h : Tr w0 w n t N A) (hn : n ≤ 1000000) (f : ByteArray) (hf : f.size ≤ 1000) (i : Int) (hi : (Lit.int .i64 i).wf = true) :
    Calls Tryz.prog 28 #[.pointer (some ⟨t, 0, none⟩), .string f, .int .i64 i] w fun e w' => e = .returned (dropV A f.data.toList i) ∧ ∃ N', Tr w0 w' (n + 9) t N' (dropA A f.data.toList i) ∧ Kept w0 w' ∧ Moves N N' [] w w' :=
  (Drop_any w n t hn N A h.tri f hf i hi).mono fun _ _ ⟨h1, N', h2, h3⟩ => ⟨h1, N', (h.next k h2 h3).1, (h.next k h2 h3).2, h3⟩
theorem drop_from1 {w0 w : World} (k : Kept w0 w) {n t : Nat} {N : Path → Option Loc} {A : Path → Int → Nat} (h : Tr w0 w n t N A) (hn : n ≤ 1000000) (f : ByteArray) (hf : f.size ≤ 1000) (i : Int) (hi : (Lit.int .i64 i).wf = true) :
    Calls Tryz.prog 28 #[.pointer (some ⟨t, 0, none⟩), .string f, .int .i64 i] w fun e w' => e = .returned (dropV A f.data.toList i) ∧ ∃ N', Tr w0 w' (n + 1) t N' (dropA A f.data.toList i) ∧ Kept w0 w' ∧ Moves N N' [] w w' :=
  (Drop_any1 w n t hn N A h.tri f hf i hi).mono fun _ _ ⟨h1, N', h2, h3⟩ => ⟨h1, N', (h.next k h2 h3).1, (h.next k h2 h3).2, h3⟩
theorem leave_from {w0 w : World} (k : Kept w0 w) {n t : Nat} {N : Path → Option Loc} {A : Path → Int → Nat} (h : Tr w0 w n t N A) (hn : n ≤ 1000000) (i : Int) (hi : (Lit.int .i64 i).wf = true) :
    Calls Tryz.prog 8 #[.pointer (some ⟨t, 0, none⟩), .int .i64 i] w fun e w' => ∃ L : List Path, e = .returned (.int .i64 L.length) ∧ L.Nodup ∧ (∀ q, q ∈ L ↔ 0 < A q i) ∧ ∃ N', Tr w0 w' n t N' (leaveA A i) ∧ Kept w0 w' ∧ Moves N N' [] w w' :=
  (Leave_any w n t hn N A h.tri i hi).mono fun _ _ ⟨L, h1, h2, h3, N', h4, h5⟩ => ⟨L, h1, h2, h3, N', (h.next k h4 h5).1, (h.next k h4 h5).2, h5⟩
theorem copy_from {w0 w : World} (k : Kept w0 w) {n t : Nat} {N : Path → Option Loc} {A : Path → Int → Nat} (h : Tr w0 w n t N A) (hn : n ≤ 1000000) :
    Calls Tryz.prog 6 #[.pointer (some ⟨t, 0, none⟩)] w fun e w' => ∃ t' N', e = .returned (.pointer (some ⟨t', 0, none⟩)) ∧ Tr w0 w' n t' N' A ∧ Kept w0 w' ∧ Kept w w' ∧ Apart N N' :=
  (Copy_any w n t hn N A h.tri).mono fun _ _ ⟨t', N', h1, h2, h3, h4⟩ => ⟨t', N', h1, ⟨h2, fun i hi => Nat.le_trans k.size (h4 i (.inl hi))⟩, k.trans h3, h3, fun i hi hj => by
    have a1 := h.tri.trie.lt hi
    have a2 := h4 i (.inl hj)
    omega⟩

/-! ### who asks, as a list -/
def cnt (l : List (Path × Int)) : Path → Int → Nat := fun q i => l.count (q, i)
theorem cnt_nil : cnt [] = fun _ _ => 0 := rfl
theorem cnt_pos {l : List (Path × Int)} {q : Path} {i : Int} : 0 < cnt l q i ↔ (q, i) ∈ l := List.count_pos_iff
theorem bump_eq {A B : Path → Int → Nat} {q : Path} {i : Int} {c : Nat} (h1 : B q i = c) (h2 : ∀ p j, (p, j) ≠ (q, i) → B p j = A p j) : bump A q i c = B := by
  funext p j
  unfold bump
  by_cases e : p = q
  · subst e
    rw [upd_same]
    by_cases e2 : j = i
    · subst e2; rw [upd_same, h1]
    · rw [upd_other _ _ e2, h2 p j (fun h => e2 (by cases h; rfl))]
  · rw [upd_other _ _ e, h2 p j (fun h => e (by cases h; rfl))]
theorem add_cnt {l : List (Path × Int)} {f : List UInt8} {i : Int} (h : okF f i = true) : addA (cnt l) f i = cnt ((Tp.lev f, i) :: l) := by
  unfold addA
  rw [if_pos h]
  refine bump_eq ?_ (fun p j hne => ?_)
  · unfold cnt; rw [List.count_cons_self]
  · unfold cnt; rw [List.count_cons_of_ne (fun e => hne e.symm)]
theorem add_no {A : Path → Int → Nat} {f : List UInt8} {i : Int} (h : okF f i = false) : addA A f i = A := by unfold addA; rw [if_neg (by rw [h]; decide)]
theorem drop_cnt {l : List (Path × Int)} {f : List UInt8} {i : Int} (h : okF f i = true) : dropA (cnt l) f i = cnt (l.erase (Tp.lev f, i)) := by
  unfold dropA
  by_cases h0 : cnt l (Tp.lev f) i = 0
  · rw [if_neg (fun h => h.2 h0)]
    have : (Tp.lev f, i) ∉ l := fun hm => by have := cnt_pos.2 hm; omega
    rw [List.erase_of_not_mem this]
  · rw [if_pos ⟨h, h0⟩]
    refine bump_eq ?_ (fun p j hne => ?_)
    · unfold cnt; rw [List.count_erase_self]
    · unfold cnt; rw [List.count_erase_of_ne (fun e => hne e)]
theorem drop_no {A : Path → Int → Nat} {f : List UInt8} {i : Int} (h : okF f i = false) : dropA A f i = A := by unfold dropA; rw [if_neg (by rw [h]; simp)]
theorem leave_cnt {l : List (Path × Int)} {i : Int} : leaveA (cnt l) i = cnt (l.filter fun x => decide (x.2 ≠ i)) := by
  funext q j
  unfold leaveA cnt
  by_cases e : j = i
  · subst e
    rw [if_pos rfl]
    exact (List.count_eq_zero.2 (fun h => by have := (List.mem_filter.1 h).2; simp at this)).symm
  · rw [if_neg e, List.count_filter (by simpa using e)]

/-! ### rows told apart -/
theorem sorted_ext {α : Type} {lt : α → α → Prop} (irr : ∀ a, ¬ lt a a) (tr : ∀ a b c, lt a b → lt b c → lt a c) : ∀ {l m : List α}, l.Pairwise lt → m.Pairwise lt → (∀ x, x ∈ l ↔ x ∈ m) → l = m
  | [], [], _, _, _ => rfl
  | [], y :: m, _, _, h => by have := (h y).2 (by simp); cases this
  | x :: l, [], _, _, h => by have := (h x).1 (by simp); cases this
  | x :: l, y :: m, hl, hm, h => by
    obtain ⟨hl1, hl2⟩ := List.pairwise_cons.1 hl
    obtain ⟨hm1, hm2⟩ := List.pairwise_cons.1 hm
    have hxy : x = y := by
      rcases List.mem_cons.1 ((h x).1 (by simp)) with e | hx
      · exact e
      · rcases List.mem_cons.1 ((h y).2 (by simp)) with e | hy
        · exact e.symm
        · exact absurd (tr _ _ _ (hm1 x hx) (hl1 y hy)) (irr y)
    subst hxy
    have : l = m := sorted_ext irr tr hl2 hm2 (fun z => by
      constructor
      · intro hz
        rcases List.mem_cons.1 ((h z).1 (by simp [hz])) with e | hz'
        · subst e; exact absurd (hl1 z hz) (irr z)
        · exact hz'
      · intro hz
        rcases List.mem_cons.1 ((h z).2 (by simp [hz])) with e | hz'
        · subst e; exact absurd (hm1 z hz) (irr z)
        · exact hz')
    rw [this]
theorem ints_ext {l m : List Int} (hl : l.Pairwise (· < ·)) (hm : m.Pairwise (· < ·)) (h : ∀ x, x ∈ l ↔ x ∈ m) : l = m := sorted_ext (fun a => Int.lt_irrefl a) (fun _ _ _ => Int.lt_trans) hl hm h
theorem texts_ext {l m : List (List UInt8)} (hl : Ordered l) (hm : Ordered m) (h : ∀ x, x ∈ l ↔ x ∈ m) : l = m := sorted_ext (lt := fun a b => Tp.less a b = true) (fun a h => by rw [Tp.less_irrefl] at h; cases h) (fun _ _ _ => Tp.less_trans) hl hm h

/-- numbers that a slice holds -/
def Nums (w : World) (v : Value) (xs : List Int) : Prop :=
  ∃ a cap, v = .slice a xs.length cap ∧ xs.length ≤ cap ∧ cap ≤ maxLen ∧ (xs = [] ∨ ∃ g off, a = some ⟨g, off, none⟩ ∧ g < w.heap.size ∧ ∀ i x, xs[i]? = some x → w.cell? ⟨g, off + i, none⟩ = some (.int .i64 x))
theorem OwnI.nums {w : World} {base : Nat} {v : Value} {xs : List Int} (h : OwnI w base v xs) : Nums w v xs := by
  rcases h.2 with ⟨rfl, hn⟩ | ⟨g, cap, cur, rfl, hb, hg, h1, h2, h3, h4⟩
  · have : xs = [] := List.eq_nil_of_length_eq_zero hn
    subst this
    exact ⟨none, 0, rfl, Nat.le_refl _, Nat.zero_le _, .inl rfl⟩
  · refine ⟨_, cap, rfl, h1, h2, .inr ⟨g, 0, rfl, heap_lt hg, fun i x hx => ?_⟩⟩
    have hi : i < xs.length := by
      rcases Nat.lt_or_ge i xs.length with hlt | hge
      · exact hlt
      · rw [List.getElem?_eq_none hge] at hx; cases hx
    have := World.ownsRow.cellAt (w := w) (base := base) (e := 3) (size := 1) (g := g) (cap := cap) (n := xs.length) (xs := xs.map (Value.int .i64)) h i (by omega)
    rw [Nat.zero_add, this, List.getElem?_map, hx]
    rfl
theorem nums_at {w : World} {g off : Nat} {xs : List Int} (hc : ∀ i x, xs[i]? = some x → w.cell? ⟨g, off + i, none⟩ = some (.int .i64 x)) (i : Nat) (h : i < xs.length) : w.cell? ⟨g, off + i, none⟩ = some (.int .i64 xs[i]) := hc i _ (List.getElem?_eq_getElem h)

set_option maxHeartbeats 1000000 in
set_option maxRecDepth 100000 in
theorem ints_some (g1 o1 c1 g2 o2 c2 : Nat) (xs ys : List Int) (w : World) (_l1 : xs.length ≤ c1) (m1 : c1 ≤ maxLen) (hl : xs.length = ys.length)
    (hc1 : ∀ i x, xs[i]? = some x → w.cell? ⟨g1, o1 + i, none⟩ = some (.int .i64 x)) (hc2 : ∀ i x, ys[i]? = some x → w.cell? ⟨g2, o2 + i, none⟩ = some (.int .i64 x)) :
    Calls Tryz.prog 13 #[.slice (some ⟨g1, o1, none⟩) xs.length c1, .slice (some ⟨g2, o2, none⟩) xs.length c2] w fun e w' => e = .returned (.bool (xs == ys)) ∧ Kept w w' := by
  unfold maxLen at m1
  have HC1 := Lib.hid hc1
  have HC2 := Lib.hid hc2
  have HL := Lib.hid hl
  clear hc1 hc2 hl
  go_enter Tryz.func13, Tryz.ntmps13
  go_wp2
  go_loopw [5] (fun i wr => ∃ k : Nat, k ≤ xs.length ∧ i = .int .i64 k ∧ (∀ j (a : j < xs.length) (b : j < ys.length), j < k → xs[j] = ys[j]) ∧ ∃ m, wr = w.drewN m) (fun i _ => xs.length - (intOf i).toNat)
  case atStart => exact ⟨0, Nat.zero_le _, rfl, by omega, 0, rfl⟩
  case round =>
    obtain ⟨k, hk, rfl, hsm, m, rfl⟩ := hrel
    have Hsm := Lib.hid hsm
    clear hsm
    by_cases hlt : k < xs.length
    · have cp := nums_at HC1.out k hlt
      have cq := nums_at HC2.out k (by rw [← HL.out]; exact hlt)
      obtain ⟨p, hp⟩ : ∃ p, xs[k] = p := ⟨_, rfl⟩
      obtain ⟨q, hq⟩ : ∃ q, ys[k]'(by rw [← HL.out]; exact hlt) = q := ⟨_, rfl⟩
      rw [hp] at cp
      rw [hq] at cq
      have Lp := Lib.hid hp
      have Lq := Lib.hid hq
      clear hp hq
      by_cases he : p = q
      · subst he
        have e1 : (p == p) = true := by simp
        have e2 : (p != p) = false := by simp
        go_wp2
        go_quiet (fail)
        go_wp2
        go_roundw
        case rel => exact ⟨k + 1, by omega, by go_num, fun j a b hj => by
                      by_cases e : j = k
                      · subst e; rw [Lp.out, Lq.out]
                      · exact Hsm.out j a b (by omega), _, rfl⟩
        case measure => simp [intOf]; omega
      · have e1 : (p == q) = false := by rw [beq_eq_false_iff_ne]; exact he
        have e2 : (p != q) = true := by simp [bne, e1]
        have Hf : Hid ((xs == ys) = false) := by
          show _ = _
          rw [beq_eq_false_iff_ne]
          rintro rfl
          exact he (by rw [← Lp.out, ← Lq.out])
        clear he
        go_wp2
        go_quiet (fail)
        go_wp2
        go_ret
        exact ⟨by rw [Hf.out]; rfl, below_drewN (below_drewN (Kept.refl w) _) _⟩
    · go_wp2
      go_ret
      refine ⟨?_, below_drewN (Kept.refl w) _⟩
      have he : xs = ys := List.ext_getElem HL.out (fun j h1 h2 => Hsm.out j h1 h2 (by omega))
      subst he
      simp

set_option maxHeartbeats 1000000 in
set_option maxRecDepth 100000 in
theorem ints_any (v1 v2 : Value) (xs ys : List Int) (w : World) (h1 : Nums w v1 xs) (h2 : Nums w v2 ys) :
    Calls Tryz.prog 13 #[v1, v2] w fun e w' => e = .returned (.bool (xs == ys)) ∧ Kept w w' := by
  obtain ⟨a1, c1, rfl, l1, m1, k1⟩ := h1
  obtain ⟨a2, c2, rfl, _, _, k2⟩ := h2
  by_cases hl : xs.length = ys.length
  · rcases k1 with rfl | ⟨g1, o1, rfl, _, q1⟩
    · have hy : ys = [] := List.eq_nil_of_length_eq_zero hl.symm
      subst hy
      clear hl k2
      go_enter Tryz.func13, Tryz.ntmps13
      go_wp2
      go_loop [5] (fun i => i = .int .i64 0) (fun _ => 0)
      case atStart => rfl
      case round =>
        obtain rfl := hrel
        go_wp2
        go_ret
        exact ⟨rfl, Kept.refl _⟩
    · rcases k2 with rfl | ⟨g2, o2, rfl, _, q2⟩
      · have hx : xs = [] := List.eq_nil_of_length_eq_zero hl
        subst hx
        clear hl q1
        go_enter Tryz.func13, Tryz.ntmps13
        go_wp2
        go_loop [5] (fun i => i = .int .i64 0) (fun _ => 0)
        case atStart => rfl
        case round =>
          obtain rfl := hrel
          go_wp2
          go_ret
          exact ⟨rfl, Kept.refl _⟩
      · rw [← hl]
        exact ints_some g1 o1 c1 g2 o2 c2 xs ys w l1 m1 hl q1 q2
  · have e1 : ((xs.length : Int) == (ys.length : Int)) = false := by rw [beq_eq_false_iff_ne]; omega
    have e2 : ((xs.length : Int) != (ys.length : Int)) = true := by simp [bne, e1]
    have Hf : Hid ((xs == ys) = false) := by
      show _ = _
      rw [beq_eq_false_iff_ne]
      rintro rfl
      exact hl rfl
    clear k1 k2
    go_enter Tryz.func13, Tryz.ntmps13
    go_wp2
    go_ret
    exact ⟨by rw [Hf.out]; rfl, Kept.refl _⟩
end Go.Proofs.YtalebnhkidhglaaGreat
