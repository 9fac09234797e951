/-
  The document's own trie and what lies beside it: frames by the kinds of blocks; rows of asks.
-/
import Derived.Test.YtalebnhkidhglaaGreatRdoc2
import Derived.Test.YtalebnhkidhglaaGreatOins
namespace Go.Proofs.YtalebnhkidhglaaGreat
open Go.ChangeShapes Go.WideShapes Go.ChangeAt Go.RowKit Go.Maps

/-- a block of the document's trie: asks, or the trie itself -/
def DS (w : World) (i : Nat) : Prop := ∃ c z, w.heap[i]? = some (.cells c 67 z) ∨ w.heap[i]? = some (.cells c 29 z)
/-- nothing but such blocks has turned -/
def DBut (w w' : World) : Prop := But (DS w) w w'
theorem DBut.refl (w : World) : DBut w w := But.refl _ _
theorem Kept.dbut {w w' : World} (k : Kept w w') : DBut w w' := k.but
theorem DBut.trans {a b c : World} (h : DBut a b) (k : DBut b c) : DBut a c :=
  But.trans h k fun i hi ⟨cc, z, e⟩ => Classical.byContradiction fun hn => by
    rw [h.block i hi hn] at e
    exact hn ⟨cc, z, e⟩
theorem DBut.other {w w' : World} (h : DBut w w') {i : Nat} {o : Obj} (hi : w.heap[i]? = some o) (ho : ∀ c e z, o = .cells c e z → e ≠ 67 ∧ e ≠ 29) : w'.heap[i]? = some o := by
  refine But.at h hi ?_
  rintro ⟨c, z, e | e⟩
  · rw [hi] at e; cases e; exact (ho _ _ _ rfl).1 rfl
  · rw [hi] at e; cases e; exact (ho _ _ _ rfl).2 rfl
theorem DBut.row {w w' : World} (h : DBut w w') {base : Nat} {e : TypeId} {size : Nat} {v : Value} {n : Nat} {xs : List Value} (ho : w.ownsRow base e size v n xs) (he : e ≠ 67 ∧ e ≠ 29) : w'.ownsRow base e size v n xs := by
  refine row_but ho h fun i hi => ?_
  rintro ⟨c, z, hc⟩
  rcases ho.2 with ⟨rfl, _⟩ | ⟨g, cap, cur, rfl, _, hg, _⟩
  · cases hi
  · cases hi
    rcases hc with hc | hc
    · rw [hg] at hc; cases hc; exact he.1 rfl
    · rw [hg] at hc; cases hc; exact he.2 rfl
theorem DBut.tri {w w' : World} (h : DBut w w') {n t : Nat} {N : Path → Option Loc} {A : Path → Int → Nat} (hT : Tri w n t N A) : Tri w' n t N A := by
  refine hT.but h fun i hi => ?_
  rintro ⟨c, z, hc⟩
  rcases hi with hi | rfl
  · rcases hc with hc | hc
    · exact hT.trie.other hc ⟨fun _ _ e => (by cases e), fun _ _ e => (by cases e)⟩ hi
    · exact hT.trie.other hc ⟨fun _ _ e => (by cases e), fun _ _ e => (by cases e)⟩ hi
  · obtain ⟨l, _, ht⟩ := hT.obj
    rcases hc with hc | hc
    · rw [ht] at hc; cases hc
    · rw [ht] at hc; cases hc
theorem DBut.tr {w0 w w' : World} (h : DBut w w') {n t : Nat} {N : Path → Option Loc} {A : Path → Int → Nat} (hT : Tr w0 w n t N A) : Tr w0 w' n t N A := ⟨h.tri hT.tri, hT.own⟩
theorem DBut.opsrow {w w' : World} (h : DBut w w') {base : Nat} {v : Value} {os : List OpV} (ho : OwnO w base v os) : OwnO w' base v os := h.row ho ⟨by decide, by decide⟩
theorem DBut.ints {w w' : World} (h : DBut w w') {base : Nat} {v : Value} {xs : List Int} (ho : OwnI w base v xs) : OwnI w' base v xs := h.row ho ⟨by decide, by decide⟩
theorem DBut.texts {w w' : World} (h : DBut w w') {base : Nat} {v : Value} {xs : List (List UInt8)} (ho : OwnS w base v xs) : OwnS w' base v xs := h.row ho ⟨by decide, by decide⟩

/-- the document's trie, of the law's own -/
structure DTr (w0 w : World) (r : Nat) (rs : List AskV) : Prop where
  own : w0.heap.size ≤ r
  ex : ∃ a cap, w.heap[r]? = some (.cells #[.slice a rs.length cap] 29 (0, 0)) ∧ OwnA w w0.heap.size (.slice a rs.length cap) rs
theorem DTr.at_ {w0 w : World} {r : Nat} {rs : List AskV} (h : DTr w0 w r rs) : DocAt w w0.heap.size r rs := by
  obtain ⟨a, cap, h1, h2⟩ := h.ex
  exact ⟨a, cap, box_cell h1, h2⟩
theorem DTr.kept {w0 w w' : World} {r : Nat} {rs : List AskV} (h : DTr w0 w r rs) (k : Kept w w') : DTr w0 w' r rs := by
  obtain ⟨a, cap, h1, h2⟩ := h.ex
  exact ⟨h.own, a, cap, (Below.block k _ (heap_lt h1)).trans h1, own_kept h2 k⟩
theorem DTr.moves {w0 w w' : World} {r n : Nat} {rs : List AskV} {N N' : Path → Option Loc} {A : Path → Int → Nat} {q : Path} (h : DTr w0 w r rs) (hT : TrieAt w n N A) (hM : Moves N N' q w w') : DTr w0 w' r rs := by
  obtain ⟨a, cap, h1, h2⟩ := h.ex
  refine ⟨h.own, a, cap, hM.but.at h1 (fun hu => hT.other h1 ⟨fun _ _ e => (by cases e), fun _ _ e => (by cases e)⟩ hu.of), row_but h2 hM.but (fun i hi hu => ?_)⟩
  rcases h2.2 with ⟨e, _⟩ | ⟨g, cap', cur, e, _, hg, _⟩
  · injection e with e1; subst e1; cases hi
  · injection e with e1; subst e1
    cases hi
    exact hT.other hg ⟨fun _ _ e => (by cases e), fun _ _ e => (by cases e)⟩ hu.of
/-- a change of such blocks alone keeps what was there before the law -/
theorem DBut.after {w0 w w' : World} (k : Kept w0 w) (S : Nat → Prop) (h : But S w w') (hs : ∀ i, S i → w0.heap.size ≤ i) : Kept w0 w' := But.after k h fun i hi hS => by have := hs i hS; omega

theorem infoAsk : (Tryz.prog.info? 67).map (fun i => (i.zero, i.size, i.bytes)) = some (some (.agg #[.string ⟨#[]⟩, .int .i64 0, .int .i64 0]), 3, 32) := by kernel_rfl
theorem ask_one : ∀ (rs : List AskV), ∀ u ∈ rs.flatMap AskV.cells, u.oneCell' = true := by
  intro rs u hu
  obtain ⟨a, _, h⟩ := List.mem_flatMap.1 hu
  simp [AskV.cells] at h
  rcases h with rfl | rfl | rfl <;> rfl
theorem ask_len : ∀ (rs : List AskV), (rs.flatMap AskV.cells).length = rs.length * 3
  | [] => rfl
  | a :: rs => by rw [List.flatMap_cons, List.length_append, ask_len rs]; simp [AskV.cells]; omega
theorem OwnA.form {w : World} {base : Nat} {v : Value} {rs : List AskV} (h : OwnA w base v rs) : ∃ a cap, v = .slice a rs.length cap := by
  rcases h.2 with ⟨rfl, h0⟩ | ⟨g, cap, cur, rfl, _⟩
  · exact ⟨none, 0, by rw [h0]⟩
  · exact ⟨_, cap, rfl⟩
/-- asks behind a row of asks -/
theorem wp_asks {w : World} {ops : Array Oper} {rest : List Oper} {o : Oper} {a : Act} {Q : Exit → Act → World → Prop} {base : Nat} {v : Value} {xs : List AskV}
    (hown : OwnA w base v xs) (ys : List AskV) (hx : xs.length + ys.length ≤ 1000001) (hbase : base ≤ w.heap.size) (ad : Addr) (m c : Nat) (hm : m = ys.length)
    (hcell : ∀ j u, (ys.flatMap AskV.cells)[j]? = some u → w.cell? (ad.add j) = some u) (n : Nat) (hn : n = xs.length + ys.length) (hgd : o.guard = none) (s x : Operand)
    (ho : o.op = .call { callee := .builtin .append, args := #[s, x], argTypes := #[27, 27] }) (hs : a.eval s = v) (hxe : a.eval x = .slice (some ad) m c)
    (h : ∀ a' cap w', OwnA w' base (.slice a' n cap) (xs ++ ys) → w.grownBy w' v.ownBlock → (v ≠ .slice none 0 0 ∨ m ≠ 0 → ∃ g, a' = some ⟨g, 0, none⟩) → wpList Tryz.prog ops Q rest (a.put o.dst (.slice a' n cap)) w') :
    wpList Tryz.prog ops Q (o :: rest) a w := by
  obtain ⟨i0, hi, hz0, hz1, hz2⟩ := info_parts infoAsk
  subst hm
  subst hn
  refine wpList_append_own _ hgd s x 27 ho base 67 i0 (.agg #[.string ⟨#[]⟩, .int .i64 0, .int .i64 0]) 3 32 Tryz.underlying27 hi hz0 hz1 hz2 rfl (by decide) v xs.length (xs.flatMap AskV.cells) hs hown ad ys.length c (ys.flatMap AskV.cells) hxe (ask_len ys) hcell (ask_one ys) (by unfold maxLen; omega) (by omega) hbase ?_
  intro v' w' hown' hgrow hnil
  have ho' : OwnA w' base v' (xs ++ ys) := by unfold OwnA; rw [List.length_append, List.flatMap_append]; exact hown'
  obtain ⟨a', cap, rfl⟩ := ho'.form
  rw [List.length_append] at ho' hnil
  rw [List.length_append]
  refine h a' cap w' ho' hgrow fun hv => ?_
  rcases ho'.2 with ⟨e, _⟩ | ⟨g, cap', _, e, _⟩
  · obtain ⟨e1, e2⟩ := hnil.1 e
    rcases hv with hv | hv
    · exact absurd e1 hv
    · exact absurd e2 hv
  · injection e with e1; exact ⟨g, e1⟩
theorem asks_part {w : World} {base g cap : Nat} {xs : List AskV} (h : OwnA w base (.slice (some ⟨g, 0, none⟩) xs.length cap) xs) (k n : Nat) (ys : List AskV) (hy : ys = (xs.drop k).take n) :
    ∀ j u, (ys.flatMap AskV.cells)[j]? = some u → w.cell? ((⟨g, k * 3, none⟩ : Addr).add j) = some u := by
  intro j u hu
  subst hy
  have hj : j < ((xs.drop k).take n).length * 3 := by
    rcases Nat.lt_or_ge j (((xs.drop k).take n).length * 3) with q | q
    · exact q
    · rw [List.getElem?_eq_none (by rw [ask_len]; exact q)] at hu; cases hu
  have hj' := hj
  rw [List.length_take, List.length_drop] at hj'
  have hv : w.ownsRow base 67 3 (.slice (some ⟨g, 0, none⟩) xs.length cap) xs.length (xs.flatMap AskV.cells) := h
  have hlt : k * 3 + j < xs.length * 3 := by
    have : min n (xs.length - k) ≤ xs.length - k := Nat.min_le_right _ _
    by_cases hk : k ≤ xs.length
    · have : j < (xs.length - k) * 3 := Nat.lt_of_lt_of_le hj' (Nat.mul_le_mul_right 3 this)
      omega
    · have : xs.length - k = 0 := by omega
      rw [this] at hj'
      simp at hj'
  have hc := World.ownsRow.cellAt hv (k * 3 + j) hlt
  rw [Go.WideShapes.add_plain, hc, ← hu]
  have hq : j = j / 3 * 3 + j % 3 := by omega
  have h1 := flat3 xs (k + j / 3) (j % 3) (by omega)
  have h2 := flat3 ((xs.drop k).take n) (j / 3) (j % 3) (by omega)
  rw [show (k + j / 3) * 3 + j % 3 = k * 3 + j by omega] at h1
  rw [← hq] at h2
  rw [h1, h2, List.getElem?_take, if_pos (by omega), List.getElem?_drop]
theorem flat_set : ∀ (rs : List AskV) (k : Nat) (a : AskV) (c : Nat), rs[k]? = some a → (rs.flatMap AskV.cells).set (k * 3 + 2) (.int .i64 c) = (rs.set k ⟨a.f, a.id, c⟩).flatMap AskV.cells
  | [], k, a, c, h => by simp at h
  | b :: rs, 0, a, c, h => by
    simp at h
    subst h
    rfl
  | b :: rs, k + 1, a, c, h => by
    rw [List.flatMap_cons, List.set_append_right _ _ (by simp [AskV.cells]; omega), List.set_cons_succ, List.flatMap_cons]
    have := flat_set rs k a c (by simpa using h)
    rw [← this]
    congr 2
    simp [AskV.cells]
    omega
/-- how often, written over -/
theorem OwnA.set {w : World} {base g cap n : Nat} {rs : List AskV} (h : OwnA w base (.slice (some ⟨g, 0, none⟩) n cap) rs) {k : Nat} {a : AskV} (hk : rs[k]? = some a) (c : Nat) :
    OwnA (w.setCell ⟨g, k * 3 + 2, none⟩ (.int .i64 c)) base (.slice (some ⟨g, 0, none⟩) n cap) (rs.set k ⟨a.f, a.id, c⟩) := by
  obtain ⟨a0, c0, e⟩ := h.form
  cases e
  have hv : w.ownsRow base 67 3 (.slice (some ⟨g, 0, none⟩) rs.length cap) rs.length (rs.flatMap AskV.cells) := h
  have := (World.ownsRow.stored hv (k * 3 + 2) (.int .i64 c)).1
  unfold OwnA
  rw [← flat_set rs k a c hk, List.length_set]
  exact this
theorem set_parts (rs : List AskV) (k : Nat) (h : k < rs.length) (b : AskV) : rs = rs.take k ++ rs[k] :: rs.drop (k + 1) ∧ rs.set k b = rs.take k ++ b :: rs.drop (k + 1) := by
  constructor
  · rw [← List.drop_eq_getElem_cons h, List.take_append_drop]
  · rw [List.set_eq_take_append_cons_drop, if_pos h]
end Go.Proofs.YtalebnhkidhglaaGreat
