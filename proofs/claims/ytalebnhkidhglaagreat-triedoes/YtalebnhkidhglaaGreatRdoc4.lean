/-
  Numbers in order: the walk of the document's insert.
-/
import Derived.Test.YtalebnhkidhglaaGreatRdoc2
import Derived.Test.YtalebnhkidhglaaGreatOins
namespace Go.Proofs.YtalebnhkidhglaaGreat
open Go.ChangeShapes Go.WideShapes Go.ChangeAt Go.RowKit Go.Maps

/-- a block of the document's trie: asks, or the trie itself -/
def DS (w : World) (i : Nat) : Prop := ∃ c z, w.heap[i]? = some (.cells c 67 z) ∨ w.heap[i]? = some (.cells c 29 z)
/-- nothing but such blocks has turned -/
def DBut (w w' : World) : Prop := But (DS w) w w'
theorem DBut.refl (w : World) : DBut w w := But.refl _ _
theorem Kept.dbut {w w' : World} (k : Kept w w') : DBut w w' := k.but
theorem DBut.trans {a b c : World} (h : DBut a b) (k : DBut b c) : DBut a c :=
  But.trans h k fun i hi ⟨cc, z, e⟩ => Classical.byContradiction fun hn => by
    rw [h.block i hi hn] at e
    exact hn ⟨cc, z, e⟩
theorem DBut.other {w w' : World} (h : DBut w w') {i : Nat} {o : Obj} (hi : w.heap[i]? = some o) (ho : ∀ c e z, o = .cells c e z → e ≠ 67 ∧ e ≠ 29) : w'.heap[i]? = some o := by
  refine But.at h hi ?_
  rintro ⟨c, z, e | e⟩
  · rw [hi] at e; cases e; exact (ho _ _ _ rfl).1 rfl
  · rw [hi] at e; cases e; exact (ho _ _ _ rfl).2 rfl
theorem DBut.row {w w' : World} (h : DBut w w') {base : Nat} {e : TypeId} {size : Nat} {v : Value} {n : Nat} {xs : List Value} (ho : w.ownsRow base e size v n xs) (he : e ≠ 67 ∧ e ≠ 29) : w'.ownsRow base e size v n xs := by
  refine row_but ho h fun i hi => ?_
  rintro ⟨c, z, hc⟩
  rcases ho.2 with ⟨rfl, _⟩ | ⟨g, cap, cur, rfl, _, hg, _⟩
  · cases hi
  · cases hi
    rcases hc with hc | hc
    · rw [hg] at hc; cases hc; exact he.1 rfl
    · rw [hg] at hc; cases hc; exact he.2 rfl
theorem DBut.tri {w w' : World} (h : DBut w w') {n t : Nat} {N : Path → Option Loc} {A : Path → Int → Nat} (hT : Tri w n t N A) : Tri w' n t N A := by
  refine hT.but h fun i hi => ?_
  rintro ⟨c, z, hc⟩
  rcases hi with hi | rfl
  · rcases hc with hc | hc
    · exact hT.trie.other hc ⟨fun _ _ e => (by cases e), fun _ _ e => (by cases e)⟩ hi
    · exact hT.trie.other hc ⟨fun _ _ e => (by cases e), fun _ _ e => (by cases e)⟩ hi
  · obtain ⟨l, _, ht⟩ := hT.obj
    rcases hc with hc | hc
    · rw [ht] at hc; cases hc
    · rw [ht] at hc; cases hc
theorem DBut.tr {w0 w w' : World} (h : DBut w w') {n t : Nat} {N : Path → Option Loc} {A : Path → Int → Nat} (hT : Tr w0 w n t N A) : Tr w0 w' n t N A := ⟨h.tri hT.tri, hT.own⟩
theorem DBut.opsrow {w w' : World} (h : DBut w w') {base : Nat} {v : Value} {os : List OpV} (ho : OwnO w base v os) : OwnO w' base v os := h.row ho ⟨by decide, by decide⟩
theorem DBut.ints {w w' : World} (h : DBut w w') {base : Nat} {v : Value} {xs : List Int} (ho : OwnI w base v xs) : OwnI w' base v xs := h.row ho ⟨by decide, by decide⟩
theorem DBut.texts {w w' : World} (h : DBut w w') {base : Nat} {v : Value} {xs : List (List UInt8)} (ho : OwnS w base v xs) : OwnS w' base v xs := h.row ho ⟨by decide, by decide⟩

/-- the document's trie, of the law's own -/
structure DTr (w0 w : World) (r : Nat) (rs : List AskV) : Prop where
  own : w0.heap.size ≤ r
  ex : ∃ a cap, w.heap[r]? = some (.cells #[.slice a rs.length cap] 29 (0, 0)) ∧ OwnA w w0.heap.size (.slice a rs.length cap) rs
theorem DTr.at_ {w0 w : World} {r : Nat} {rs : List AskV} (h : DTr w0 w r rs) : DocAt w w0.heap.size r rs := by
  obtain ⟨a, cap, h1, h2⟩ := h.ex
  exact ⟨a, cap, box_cell h1, h2⟩
theorem DTr.kept {w0 w w' : World} {r : Nat} {rs : List AskV} (h : DTr w0 w r rs) (k : Kept w w') : DTr w0 w' r rs := by
  obtain ⟨a, cap, h1, h2⟩ := h.ex
  exact ⟨h.own, a, cap, (Below.block k _ (heap_lt h1)).trans h1, own_kept h2 k⟩
theorem DTr.moves {w0 w w' : World} {r n : Nat} {rs : List AskV} {N N' : Path → Option Loc} {A : Path → Int → Nat} {q : Path} (h : DTr w0 w r rs) (hT : TrieAt w n N A) (hM : Moves N N' q w w') : DTr w0 w' r rs := by
  obtain ⟨a, cap, h1, h2⟩ := h.ex
  refine ⟨h.own, a, cap, hM.but.at h1 (fun hu => hT.other h1 ⟨fun _ _ e => (by cases e), fun _ _ e => (by cases e)⟩ hu.of), row_but h2 hM.but (fun i hi hu => ?_)⟩
  rcases h2.2 with ⟨e, _⟩ | ⟨g, cap', cur, e, _, hg, _⟩
  · injection e with e1; subst e1; cases hi
  · injection e with e1; subst e1
    cases hi
    exact hT.other hg ⟨fun _ _ e => (by cases e), fun _ _ e => (by cases e)⟩ hu.of
/-- a change of such blocks alone keeps what was there before the law -/
theorem DBut.after {w0 w w' : World} (k : Kept w0 w) (S : Nat → Prop) (h : But S w w') (hs : ∀ i, S i → w0.heap.size ≤ i) : Kept w0 w' := But.after k h fun i hi hS => by have := hs i hS; omega

theorem infoAsk : (Tryz.prog.info? 67).map (fun i => (i.zero, i.size, i.bytes)) = some (some (.agg #[.string ⟨#[]⟩, .int .i64 0, .int .i64 0]), 3, 32) := by kernel_rfl
theorem ask_one : ∀ (rs : List AskV), ∀ u ∈ rs.flatMap AskV.cells, u.oneCell' = true := by
  intro rs u hu
  obtain ⟨a, _, h⟩ := List.mem_flatMap.1 hu
  simp [AskV.cells] at h
  rcases h with rfl | rfl | rfl <;> rfl
theorem ask_len : ∀ (rs : List AskV), (rs.flatMap AskV.cells).length = rs.length * 3
  | [] => rfl
  | a :: rs => by rw [List.flatMap_cons, List.length_append, ask_len rs]; simp [AskV.cells]; omega
theorem OwnA.form {w : World} {base : Nat} {v : Value} {rs : List AskV} (h : OwnA w base v rs) : ∃ a cap, v = .slice a rs.length cap := by
  rcases h.2 with ⟨rfl, h0⟩ | ⟨g, cap, cur, rfl, _⟩
  · exact ⟨none, 0, by rw [h0]⟩
  · exact ⟨_, cap, rfl⟩
/-- asks behind a row of asks -/
theorem wp_asks {w : World} {ops : Array Oper} {rest : List Oper} {o : Oper} {a : Act} {Q : Exit → Act → World → Prop} {base : Nat} {v : Value} {xs : List AskV}
    (hown : OwnA w base v xs) (ys : List AskV) (hx : xs.length + ys.length ≤ 1000001) (hbase : base ≤ w.heap.size) (ad : Addr) (m c : Nat) (hm : m = ys.length)
    (hcell : ∀ j u, (ys.flatMap AskV.cells)[j]? = some u → w.cell? (ad.add j) = some u) (n : Nat) (hn : n = xs.length + ys.length) (hgd : o.guard = none) (s x : Operand)
    (ho : o.op = .call { callee := .builtin .append, args := #[s, x], argTypes := #[27, 27] }) (hs : a.eval s = v) (hxe : a.eval x = .slice (some ad) m c)
    (h : ∀ a' cap w', OwnA w' base (.slice a' n cap) (xs ++ ys) → w.grownBy w' v.ownBlock → (v ≠ .slice none 0 0 ∨ m ≠ 0 → ∃ g, a' = some ⟨g, 0, none⟩) → wpList Tryz.prog ops Q rest (a.put o.dst (.slice a' n cap)) w') :
    wpList Tryz.prog ops Q (o :: rest) a w := by
  obtain ⟨i0, hi, hz0, hz1, hz2⟩ := info_parts infoAsk
  subst hm
  subst hn
  refine wpList_append_own _ hgd s x 27 ho base 67 i0 (.agg #[.string ⟨#[]⟩, .int .i64 0, .int .i64 0]) 3 32 Tryz.underlying27 hi hz0 hz1 hz2 rfl (by decide) v xs.length (xs.flatMap AskV.cells) hs hown ad ys.length c (ys.flatMap AskV.cells) hxe (ask_len ys) hcell (ask_one ys) (by unfold maxLen; omega) (by omega) hbase ?_
  intro v' w' hown' hgrow hnil
  have ho' : OwnA w' base v' (xs ++ ys) := by unfold OwnA; rw [List.length_append, List.flatMap_append]; exact hown'
  obtain ⟨a', cap, rfl⟩ := ho'.form
  rw [List.length_append] at ho' hnil
  rw [List.length_append]
  refine h a' cap w' ho' hgrow fun hv => ?_
  rcases ho'.2 with ⟨e, _⟩ | ⟨g, cap', _, e, _⟩
  · obtain ⟨e1, e2⟩ := hnil.1 e
    rcases hv with hv | hv
    · exact absurd e1 hv
    · exact absurd e2 hv
  · injection e with e1; exact ⟨g, e1⟩
theorem asks_part {w : World} {base g cap : Nat} {xs : List AskV} (h : OwnA w base (.slice (some ⟨g, 0, none⟩) xs.length cap) xs) (k n : Nat) (ys : List AskV) (hy : ys = (xs.drop k).take n) :
    ∀ j u, (ys.flatMap AskV.cells)[j]? = some u → w.cell? ((⟨g, k * 3, none⟩ : Addr).add j) = some u := by
  intro j u hu
  subst hy
  have hj : j < ((xs.drop k).take n).length * 3 := by
    rcases Nat.lt_or_ge j (((xs.drop k).take n).length * 3) with q | q
    · exact q
    · rw [List.getElem?_eq_none (by rw [ask_len]; exact q)] at hu; cases hu
  have hj' := hj
  rw [List.length_take, List.length_drop] at hj'
  have hv : w.ownsRow base 67 3 (.slice (some ⟨g, 0, none⟩) xs.length cap) xs.length (xs.flatMap AskV.cells) := h
  have hlt : k * 3 + j < xs.length * 3 := by
    have : min n (xs.length - k) ≤ xs.length - k := Nat.min_le_right _ _
    by_cases hk : k ≤ xs.length
    · have : j < (xs.length - k) * 3 := Nat.lt_of_lt_of_le hj' (Nat.mul_le_mul_right 3 this)
      omega
    · have : xs.length - k = 0 := by omega
      rw [this] at hj'
      simp at hj'
  have hc := World.ownsRow.cellAt hv (k * 3 + j) hlt
  rw [Go.WideShapes.add_plain, hc, ← hu]
  have hq : j = j / 3 * 3 + j % 3 := by omega
  have h1 := flat3 xs (k + j / 3) (j % 3) (by omega)
  have h2 := flat3 ((xs.drop k).take n) (j / 3) (j % 3) (by omega)
  rw [show (k + j / 3) * 3 + j % 3 = k * 3 + j by omega] at h1
  rw [← hq] at h2
  rw [h1, h2, List.getElem?_take, if_pos (by omega), List.getElem?_drop]
theorem flat_set : ∀ (rs : List AskV) (k : Nat) (a : AskV) (c : Nat), rs[k]? = some a → (rs.flatMap AskV.cells).set (k * 3 + 2) (.int .i64 c) = (rs.set k ⟨a.f, a.id, c⟩).flatMap AskV.cells
  | [], k, a, c, h => by simp at h
  | b :: rs, 0, a, c, h => by
    simp at h
    subst h
    rfl
  | b :: rs, k + 1, a, c, h => by
    rw [List.flatMap_cons, List.set_append_right _ _ (by simp [AskV.cells]; omega), List.set_cons_succ, List.flatMap_cons]
    have := flat_set rs k a c (by simpa using h)
    rw [← this]
    congr 2
    simp [AskV.cells]
    omega
/-- how often, written over -/
theorem OwnA.set {w : World} {base g cap n : Nat} {rs : List AskV} (h : OwnA w base (.slice (some ⟨g, 0, none⟩) n cap) rs) {k : Nat} {a : AskV} (hk : rs[k]? = some a) (c : Nat) :
    OwnA (w.setCell ⟨g, k * 3 + 2, none⟩ (.int .i64 c)) base (.slice (some ⟨g, 0, none⟩) n cap) (rs.set k ⟨a.f, a.id, c⟩) := by
  obtain ⟨a0, c0, e⟩ := h.form
  cases e
  have hv : w.ownsRow base 67 3 (.slice (some ⟨g, 0, none⟩) rs.length cap) rs.length (rs.flatMap AskV.cells) := h
  have := (World.ownsRow.stored hv (k * 3 + 2) (.int .i64 c)).1
  unfold OwnA
  rw [← flat_set rs k a c hk, List.length_set]
  exact this
theorem set_parts (rs : List AskV) (k : Nat) (h : k < rs.length) (b : AskV) : rs = rs.take k ++ rs[k] :: rs.drop (k + 1) ∧ rs.set k b = rs.take k ++ b :: rs.drop (k + 1) := by
  constructor
  · rw [← List.drop_eq_getElem_cons h, List.take_append_drop]
  · rw [List.set_eq_take_append_cons_drop, if_pos h]
end Go.Proofs.YtalebnhkidhglaaGreat

namespace Go.Proofs.YtalebnhkidhglaaGreat
open Go.ChangeShapes Go.WideShapes Go.ChangeAt Go.RowKit Go.Maps

theorem insI_at (n : Int) : ∀ (l : List Int) (k : Nat), k ≤ l.length → (∀ i (h : i < l.length), i < k → l[i] < n) → (∀ h : k < l.length, ¬ l[k] < n) →
    insI n l = if h : k < l.length then (if l[k] = n then l else l.take k ++ [n] ++ l.drop k) else l ++ [n]
  | [], k, hk, _, _ => by simp [insI]
  | y :: l, 0, _, _, h => by
    have := h (by simp)
    simp only [List.getElem_cons_zero] at this
    rw [insI, if_neg this]
    simp
  | y :: l, k + 1, hk, h1, h2 => by
    have h0 := h1 0 (by simp) (by omega)
    simp only [List.getElem_cons_zero] at h0
    rw [insI, if_pos h0, insI_at n l k (by simpa using hk) (fun i hi hik => h1 (i + 1) (by simpa using hi) (by omega)) (fun hkl => h2 (by simpa using hkl))]
    by_cases hkl : k < l.length
    · rw [dif_pos hkl, dif_pos (by simpa using hkl)]
      simp only [List.getElem_cons_succ]
      split
      · rfl
      · simp
    · rw [dif_neg hkl, dif_neg (by simpa using hkl)]
      simp
theorem insI_len (n : Int) : ∀ l : List Int, (insI n l).length ≤ l.length + 1
  | [] => by simp [insI]
  | y :: l => by
    rw [insI]
    have := insI_len n l
    split
    · simp; exact this
    · split <;> simp

/-- a row of numbers of the call's own that is not nil -/
def OwnJ (w : World) (base : Nat) (v : Value) (xs : List Int) : Prop := OwnI w base v xs ∧ ∃ g cap, v = .slice (some ⟨g, 0, none⟩) xs.length cap
theorem OwnJ.kept {w w' : World} {base : Nat} {v : Value} {xs : List Int} (h : OwnJ w base v xs) (k : Kept w w') : OwnJ w' base v xs := ⟨h.1.kept k, h.2⟩
theorem OwnJ.mono {w : World} {base base' : Nat} {v : Value} {xs : List Int} (h : OwnJ w base v xs) (k : base' ≤ base) : OwnJ w base' v xs := ⟨World.ownsRow.mono h.1 k, h.2⟩
theorem OwnJ.empty (w : World) : OwnJ (w.alloc (.cells #[] 3)) w.heap.size (.slice (some ⟨w.heap.size, 0, none⟩) 0 0) [] :=
  ⟨⟨rfl, .inr ⟨w.heap.size, 0, #[], rfl, Nat.le_refl _, heap_alloc_new w _, Nat.le_refl _, Nat.zero_le _, rfl, rfl⟩⟩, _, _, rfl⟩

theorem wp_partI {w : World} {ops : Array Oper} {rest : List Oper} {o : Oper} {a : Act} {Q : Exit → Act → World → Prop} {base : Nat} {v : Value} {xs : List Int}
    (hown : OwnJ w base v xs) (ys : List Int) (hx : xs.length + ys.length ≤ 1000001) (hbase : base ≤ w.heap.size) (ad : Addr) (m c : Nat) (hm : m = ys.length) (n : Nat) (hn : n = xs.length + ys.length)
    (hcell : ∀ j u, (ys.map (Value.int .i64))[j]? = some u → w.cell? (ad.add j) = some u) (hgd : o.guard = none) (s x : Operand)
    (ho : o.op = .call { callee := .builtin .append, args := #[s, x], argTypes := #[38, 38] }) (hs : a.eval s = v) (hxe : a.eval x = .slice (some ad) m c)
    (h : ∀ g cap w', OwnJ w' base (.slice (some ⟨g, 0, none⟩) n cap) (xs ++ ys) → Below base w w' → wpList Tryz.prog ops Q rest (a.put o.dst (.slice (some ⟨g, 0, none⟩) n cap)) w') :
    wpList Tryz.prog ops Q (o :: rest) a w := by
  obtain ⟨hown, gv, capv, rfl⟩ := hown
  obtain ⟨i0, hi, hz0, hz1, hz2⟩ := info_parts infoInt
  subst hm
  subst hn
  refine wpList_append_own _ hgd s x 38 ho base 3 i0 (.int .i64 0) 1 8 Tryz.underlying38 hi hz0 hz1 hz2 rfl (by decide) _ xs.length (xs.map (Value.int .i64)) hs hown ad ys.length c (ys.map (Value.int .i64)) hxe (by simp) hcell (fun u hu => by obtain ⟨x, _, rfl⟩ := List.mem_map.1 hu; rfl) (by unfold maxLen; omega) (by omega) hbase ?_
  intro v' w' hown' hgrow hnil
  have hl : (xs ++ ys).length = xs.length + ys.length := List.length_append
  obtain ⟨g, cap, rfl⟩ : ∃ g cap, v' = .slice (some ⟨g, 0, none⟩) (xs.length + ys.length) cap := by
    rcases hown'.2 with ⟨h0, _⟩ | ⟨g, cap, _, rfl, _⟩
    · exact absurd (hnil.1 h0).1 (by intro e; cases e)
    · exact ⟨g, cap, rfl⟩
  refine h g cap w' ⟨by unfold OwnI; rw [List.map_append, hl]; exact hown', g, cap, by rw [hl]⟩ ((Below.refl base w).grown hgrow hbase fun k hk => ?_)
  rcases hown.2 with ⟨e, _⟩ | ⟨g', cap', _, e, hb, _⟩
  · cases e
  · cases e; cases hk; exact hb
theorem part_cellsI {w : World} {base g cap : Nat} {xs : List Int} (h : OwnI w base (.slice (some ⟨g, 0, none⟩) xs.length cap) xs) (k n : Nat) (ys : List Int) (hy : ys = (xs.drop k).take n) :
    ∀ j u, (ys.map (Value.int .i64))[j]? = some u → w.cell? ((⟨g, k, none⟩ : Addr).add j) = some u := by
  intro j u hu
  subst hy
  have hj : j < ((xs.drop k).take n).length := by
    rcases Nat.lt_or_ge j ((xs.drop k).take n).length with q | q
    · exact q
    · rw [List.getElem?_eq_none (by simpa using q)] at hu; cases hu
  have hj' := hj
  rw [List.length_take, List.length_drop] at hj'
  have hv : w.ownsRow base 3 1 (.slice (some ⟨g, 0, none⟩) xs.length cap) xs.length (xs.map (Value.int .i64)) := h
  have := World.ownsRow.cellAt hv (k + j) (by omega)
  rw [Go.WideShapes.add_plain, this, ← hu, List.getElem?_map, List.getElem?_map, List.getElem?_take, if_pos (by omega), List.getElem?_drop]
theorem one_int (w : World) (p : Int) : ∀ (j : Nat) (u : Value), ([p].map (Value.int .i64))[j]? = some u → (w.alloc (.cells #[.int .i64 p] 3)).cell? ((⟨w.heap.size, 0, none⟩ : Addr).add j) = some u := by
  intro j u hj
  match j, hj with
  | 0, hj => simp at hj; subst hj; simp [Addr.add]

set_option maxHeartbeats 2000000 in
set_option maxRecDepth 100000 in
theorem rins_any (v : Value) (xs : List Int) (n : Int) (w : World) (base : Nat) (h : OwnJ w base v xs) (hbase : base ≤ w.heap.size) (hl : xs.length ≤ 1000) :
    Calls Tryz.prog 39 #[v, .int .i64 n] w fun e w' => ∃ v', e = .returned v' ∧ OwnJ w' base v' (insI n xs) ∧ Kept w w' := by
  obtain ⟨hown, g, cap, rfl⟩ := h
  have hcap : xs.length ≤ cap ∧ cap ≤ maxLen := by
    rcases hown.2 with ⟨e, _⟩ | ⟨g', cap', _, e, _, _, h1, h2, _⟩
    · cases e
    · cases e; exact ⟨h1, h2⟩
  obtain ⟨hc1, hc2⟩ := hcap
  have hat : ∀ k (_ : k < xs.length), w.cell? ⟨g, k, none⟩ = some (.int .i64 xs[k]) := fun k hk => by
    have hv : w.ownsRow base 3 1 (.slice (some ⟨g, 0, none⟩) xs.length cap) xs.length (xs.map (Value.int .i64)) := hown
    rw [World.ownsRow.cellAt hv k (by omega), List.getElem?_map, List.getElem?_eq_getElem hk]; rfl
  unfold maxLen at hc2
  have HA := Lib.hid hat
  have HO := Lib.hid hown
  clear hat hown
  go_enter Tryz.func39, Tryz.ntmps39
  go_wp2
  go_loopw [5] (fun i wr => ∃ k : Nat, k ≤ xs.length ∧ i = .int .i64 k ∧ (∀ j (q : j < xs.length), j < k → xs[j] < n) ∧ Kept w wr) (fun i _ => xs.length - (intOf i).toNat)
  case atStart => exact ⟨0, Nat.zero_le _, rfl, fun j _ q => absurd q (Nat.not_lt_zero _), Kept.refl _⟩
  case round =>
    obtain ⟨k, hk, rfl, hall, kr⟩ := hrel
    have HAll := Lib.hid hall
    clear hall
    by_cases hlt : k < xs.length
    · have hc0 := HA.out k hlt
      have hck := (Below.cell kr (p := ⟨g, k, none⟩) (World.block_lt_of_cell? w _ hc0)).trans hc0
      obtain ⟨p, hp⟩ : ∃ p, xs[k] = p := ⟨_, rfl⟩
      rw [hp] at hck
      have LP := Lib.hid hp
      clear hc0 hp
      by_cases hm : p < n
      · have Hm := Lib.hid hm
        go_wp2
        go_roundw
        case rel => exact ⟨k + 1, by omega, by go_num, fun j q hj => by
                      by_cases e : j = k
                      · subst e; rw [LP.out]; exact Hm.out
                      · exact HAll.out j q (by omega), kr⟩
        case measure => simp [intOf]; omega
      · have Hins := Lib.hid (insI_at n xs k (by omega) HAll.out (fun _ => by rw [LP.out]; exact hm))
        rw [dif_pos hlt, LP.out] at Hins
        by_cases he : p = n
        · have e1 : (p == n) = true := by rw [beq_iff_eq]; exact he
          have He := Lib.hid he
          clear he
          go_wp2
          go_ret
          refine ⟨_, rfl, ?_, kr⟩
          rw [Hins.out, if_pos He.out]
          exact ⟨HO.out.kept kr, _, _, rfl⟩
        · have e1 : (p == n) = false := by rw [beq_eq_false_iff_ne]; exact he
          have He := Lib.hid he
          clear he
          have hO1 := HO.out.kept kr
          have hlt1 : (xs.take k).length = k := by rw [List.length_take]; omega
          go_wp2_with (first | (at_builtin; refine wp_partI (OwnJ.empty wr) (xs.take k) (by simp; omega) (by simp) ⟨g, 0, none⟩ k cap hlt1.symm k (by simp; omega) (part_cellsI (hO1.kept (Kept.alloc (Kept.refl wr) _)) 0 k _ (by simp)) rfl _ _ rfl rfl rfl ?_))
          intro g2 cap2 w2 o2 b2
          have k2 : Kept wr w2 := Below.trans (Kept.alloc (Kept.refl wr) _) b2
          have O2 := Lib.hid o2
          have HO1 := Lib.hid hO1
          clear o2 hO1
          go_wp2_with (first | (at_builtin; refine wp_partI (O2.out.kept (Kept.alloc (Kept.refl w2) _)) [n] (by rw [hlt1]; simp; omega) (by have := k2.size; simp; omega) ⟨w2.heap.size, 0, none⟩ 1 1 rfl (k + 1) (by rw [hlt1]; rfl) (one_int w2 n) rfl _ _ rfl rfl rfl ?_))
          intro g3 cap3 w3 o3 b3
          have k3 : Kept wr w3 := Below.trans (k2.alloc _) b3
          have O3 := Lib.hid o3
          have hll : (xs.take k ++ [n]).length = k + 1 := by rw [List.length_append, hlt1]; rfl
          have HL := Lib.hid hll
          clear o3 hll
          go_wp2_with (first | (at_builtin; refine wp_partI O3.out (xs.drop k) (by rw [HL.out, List.length_drop]; omega) k3.size ⟨g, k, none⟩ (xs.length - k) (cap - k) (by rw [List.length_drop]) (k + 1 + (xs.length - k)) (by rw [HL.out, List.length_drop]) (part_cellsI (HO1.out.kept k3) k xs.length _ (by rw [List.take_of_length_le (by rw [List.length_drop]; omega)])) rfl _ _ rfl rfl rfl ?_))
          intro g4 cap4 w4 o4 b4
          have k4 : Kept wr w4 := Below.trans k3 b4
          go_wp2
          go_ret
          refine ⟨_, rfl, ?_, kr.trans k4⟩
          rw [Hins.out, if_neg He.out, List.append_assoc]
          exact o4.mono (Nat.le_trans hbase kr.size)
    · have Hins := Lib.hid (insI_at n xs k (by omega) HAll.out (fun q => absurd q hlt))
      rw [dif_neg hlt] at Hins
      have hke : k = xs.length := by omega
      subst hke
      have hO1 := HO.out.kept kr
      go_wp2_with (first | (at_builtin; refine wp_partI (OwnJ.empty wr) xs (by simp; omega) (by simp) ⟨g, 0, none⟩ xs.length cap rfl xs.length (by simp) (part_cellsI (hO1.kept (Kept.alloc (Kept.refl wr) _)) 0 xs.length _ (by simp)) rfl _ _ rfl rfl rfl ?_))
      intro g2 cap2 w2 o2 b2
      have k2 : Kept wr w2 := Below.trans (Kept.alloc (Kept.refl wr) _) b2
      have O2 := Lib.hid o2
      have HO1 := Lib.hid hO1
      clear o2 hO1
      go_wp2_with (first | (at_builtin; refine wp_partI (O2.out.kept (Kept.alloc (Kept.refl w2) _)) [n] (by simp; omega) (by have := k2.size; simp; omega) ⟨w2.heap.size, 0, none⟩ 1 1 rfl (xs.length + 1) (by simp) (one_int w2 n) rfl _ _ rfl rfl rfl ?_))
      intro g3 cap3 w3 o3 b3
      have k3 : Kept wr w3 := Below.trans (k2.alloc _) b3
      have O3 := Lib.hid o3
      clear o3
      have hll : (xs ++ [n]).length = xs.length + 1 := by rw [List.length_append]; rfl
      have HL := Lib.hid hll
      clear hll
      by_cases hcap : cap - xs.length = 0
      · go_wp2_with (first | (at_builtin; refine wp_partI O3.out [] (by rw [HL.out]; simp; omega) k3.size ⟨g, 0, none⟩ 0 0 rfl (xs.length + 1) (by rw [HL.out]; rfl) (fun j u hu => by simp at hu) rfl _ _ rfl rfl rfl ?_))
        intro g4 cap4 w4 o4 b4
        have k4 : Kept wr w4 := Below.trans k3 b4
        go_wp2
        go_ret
        refine ⟨_, rfl, ?_, kr.trans k4⟩
        rw [Hins.out]
        simpa using o4.mono (Nat.le_trans hbase kr.size)
      · go_wp2_with (first | (at_builtin; refine wp_partI O3.out [] (by rw [HL.out]; simp; omega) k3.size ⟨g, xs.length, none⟩ 0 (cap - xs.length) rfl (xs.length + 1) (by rw [HL.out]; rfl) (fun j u hu => by simp at hu) rfl _ _ rfl rfl rfl ?_))
        intro g4 cap4 w4 o4 b4
        have k4 : Kept wr w4 := Below.trans k3 b4
        go_wp2
        go_ret
        refine ⟨_, rfl, ?_, kr.trans k4⟩
        rw [Hins.out]
        simpa using o4.mono (Nat.le_trans hbase kr.size)
end Go.Proofs.YtalebnhkidhglaaGreat
