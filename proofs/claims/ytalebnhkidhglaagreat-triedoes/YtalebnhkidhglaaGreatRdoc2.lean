/-
  The document's Has, and its numbers in order.
-/
import Derived.Test.YtalebnhkidhglaaGreatRlaw2
import Derived.Test.YtalebnhkidhglaaGreatRquiet
namespace Go.Proofs.YtalebnhkidhglaaGreat

/-- an ask of the document's trie: a filter, who, how often -/
structure AskV where
  f : List UInt8
  id : Int
  n : Nat
/-- the list asks for just what A says -/
structure Doc (A : Path → Int → Nat) (rs : List AskV) : Prop where
  one : rs.Pairwise fun a b => ¬ (a.f = b.f ∧ a.id = b.id)
  pos : ∀ a ∈ rs, 0 < a.n
  at_ : ∀ a ∈ rs, A (Tp.lev a.f) a.id = a.n
  all : ∀ q i, 0 < A q i → ∃ a ∈ rs, Tp.lev a.f = q ∧ a.id = i

theorem bump_same (A : Path → Int → Nat) (q : Path) (i : Int) (c : Nat) : bump A q i c q i = c := by unfold bump; rw [upd_same, upd_same]
theorem bump_other (A : Path → Int → Nat) {q p : Path} {i j : Int} (c : Nat) (h : ¬ (p = q ∧ j = i)) : bump A q i c p j = A p j := by
  unfold bump
  by_cases e : p = q
  · subst e
    rw [upd_same, upd_other _ _ (fun e => h ⟨rfl, e⟩)]
  · rw [upd_other _ _ e]
theorem Doc.nil : Doc (fun _ _ => 0) [] := ⟨List.Pairwise.nil, by simp, by simp, fun _ _ h => absurd h (by simp)⟩
/-- nobody of the list: nobody asks -/
theorem Doc.no {A : Path → Int → Nat} {rs : List AskV} (h : Doc A rs) {f : List UInt8} {i : Int} (hn : ∀ a ∈ rs, ¬ (a.f = f ∧ a.id = i)) : A (Tp.lev f) i = 0 := by
  rcases Nat.eq_zero_or_pos (A (Tp.lev f) i) with h0 | h0
  · exact h0
  · obtain ⟨a, h1, h2, h3⟩ := h.all _ _ h0
    exact absurd ⟨Tp.lev_inj h2, h3⟩ (hn a h1)
theorem Doc.new {A : Path → Int → Nat} {rs : List AskV} (h : Doc A rs) {f : List UInt8} {i : Int} (hn : ∀ a ∈ rs, ¬ (a.f = f ∧ a.id = i)) {c : Nat} (hc : 0 < c) : Doc (bump A (Tp.lev f) i c) (rs ++ [⟨f, i, c⟩]) := by
  have key : ∀ a ∈ rs, ¬ (Tp.lev a.f = Tp.lev f ∧ a.id = i) := fun a ha ⟨e1, e2⟩ => hn a ha ⟨Tp.lev_inj e1, e2⟩
  refine ⟨List.pairwise_append.2 ⟨h.one, List.pairwise_singleton _ _, fun a ha b hb => ?_⟩, fun a ha => ?_, fun a ha => ?_, fun q j hq => ?_⟩
  · rw [List.mem_singleton.1 hb]; exact hn a ha
  · rcases List.mem_append.1 ha with h1 | h1
    · exact h.pos a h1
    · rw [List.mem_singleton.1 h1]; exact hc
  · rcases List.mem_append.1 ha with h1 | h1
    · rw [bump_other _ _ (key a h1)]; exact h.at_ a h1
    · rw [List.mem_singleton.1 h1]; exact bump_same _ _ _ _
  · rcases bump_pos hq with h1 | ⟨rfl, rfl⟩
    · obtain ⟨a, h2, h3⟩ := h.all q j h1
      exact ⟨a, List.mem_append.2 (.inl h2), h3⟩
    · exact ⟨⟨f, j, c⟩, List.mem_append.2 (.inr (List.mem_singleton.2 rfl)), rfl, rfl⟩
theorem Doc.apart {A : Path → Int → Nat} {xs ys : List AskV} {a : AskV} (h : Doc A (xs ++ a :: ys)) {b : AskV} (hb : b ∈ xs ++ ys) : ¬ (Tp.lev b.f = Tp.lev a.f ∧ b.id = a.id) := by
  rintro ⟨e1, e2⟩
  have e1 := Tp.lev_inj e1
  obtain ⟨h1, h2, h3⟩ := List.pairwise_append.1 h.one
  rcases List.mem_append.1 hb with hx | hy
  · exact h3 b hx a (by simp) ⟨e1, e2⟩
  · exact (List.pairwise_cons.1 h2).1 b hy ⟨e1.symm, e2.symm⟩
theorem Doc.turn {A : Path → Int → Nat} {xs ys : List AskV} {a : AskV} (h : Doc A (xs ++ a :: ys)) {c : Nat} (hc : 0 < c) : Doc (bump A (Tp.lev a.f) a.id c) (xs ++ ⟨a.f, a.id, c⟩ :: ys) := by
  obtain ⟨h1, h2, h3⟩ := List.pairwise_append.1 h.one
  obtain ⟨h4, h5⟩ := List.pairwise_cons.1 h2
  refine ⟨List.pairwise_append.2 ⟨h1, List.pairwise_cons.2 ⟨h4, h5⟩, fun x hx y hy => ?_⟩, fun b hb => ?_, fun b hb => ?_, fun q j hq => ?_⟩
  · rcases List.mem_cons.1 hy with rfl | hy
    · exact h3 x hx a (by simp)
    · exact h3 x hx y (List.mem_cons_of_mem _ hy)
  · rcases List.mem_append.1 hb with hx | hy
    · exact h.pos b (List.mem_append.2 (.inl hx))
    · rcases List.mem_cons.1 hy with rfl | hy
      · exact hc
      · exact h.pos b (List.mem_append.2 (.inr (List.mem_cons_of_mem _ hy)))
  · rcases List.mem_append.1 hb with hx | hy
    · rw [bump_other _ _ (h.apart (List.mem_append.2 (.inl hx)))]
      exact h.at_ b (List.mem_append.2 (.inl hx))
    · rcases List.mem_cons.1 hy with rfl | hy
      · exact bump_same _ _ _ _
      · rw [bump_other _ _ (h.apart (List.mem_append.2 (.inr hy)))]
        exact h.at_ b (List.mem_append.2 (.inr (List.mem_cons_of_mem _ hy)))
  · rcases bump_pos hq with h6 | ⟨rfl, rfl⟩
    · obtain ⟨b, h7, h8⟩ := h.all q j h6
      rcases List.mem_append.1 h7 with hx | hy
      · exact ⟨b, List.mem_append.2 (.inl hx), h8⟩
      · rcases List.mem_cons.1 hy with rfl | hy
        · exact ⟨⟨b.f, b.id, c⟩, List.mem_append.2 (.inr (by simp)), h8⟩
        · exact ⟨b, List.mem_append.2 (.inr (List.mem_cons_of_mem _ hy)), h8⟩
    · exact ⟨⟨a.f, a.id, c⟩, List.mem_append.2 (.inr (by simp)), rfl, rfl⟩
theorem Doc.cut {A : Path → Int → Nat} {xs ys : List AskV} {a : AskV} (h : Doc A (xs ++ a :: ys)) : Doc (bump A (Tp.lev a.f) a.id 0) (xs ++ ys) := by
  have up : ∀ b ∈ xs ++ ys, b ∈ xs ++ a :: ys := fun b hb => by
    rcases List.mem_append.1 hb with hx | hy
    · exact List.mem_append.2 (.inl hx)
    · exact List.mem_append.2 (.inr (List.mem_cons_of_mem _ hy))
  obtain ⟨h1, h2, h3⟩ := List.pairwise_append.1 h.one
  refine ⟨List.pairwise_append.2 ⟨h1, (List.pairwise_cons.1 h2).2, fun x hx y hy => h3 x hx y (List.mem_cons_of_mem _ hy)⟩, fun b hb => h.pos b (up b hb), fun b hb => ?_, fun q j hq => ?_⟩
  · rw [bump_other _ _ (h.apart hb)]
    exact h.at_ b (up b hb)
  · by_cases e : q = Tp.lev a.f ∧ j = a.id
    · obtain ⟨rfl, rfl⟩ := e
      rw [bump_same] at hq
      omega
    · rw [bump_other _ _ e] at hq
      obtain ⟨b, h7, h8, h9⟩ := h.all q j hq
      rcases List.mem_append.1 h7 with hx | hy
      · exact ⟨b, List.mem_append.2 (.inl hx), h8, h9⟩
      · rcases List.mem_cons.1 hy with rfl | hy
        · exact absurd ⟨h8.symm, h9.symm⟩ e
        · exact ⟨b, List.mem_append.2 (.inr hy), h8, h9⟩
theorem Doc.leave {A : Path → Int → Nat} {rs : List AskV} (h : Doc A rs) (i : Int) : Doc (leaveA A i) (rs.filter fun a => decide (a.id ≠ i)) := by
  refine ⟨List.Pairwise.filter _ h.one, fun a ha => h.pos a (List.mem_filter.1 ha).1, fun a ha => ?_, fun q j hq => ?_⟩
  · obtain ⟨h1, h2⟩ := List.mem_filter.1 ha
    unfold leaveA
    rw [if_neg (by simpa using h2)]
    exact h.at_ a h1
  · unfold leaveA at hq
    split at hq
    · omega
    · next e =>
      obtain ⟨a, h1, h2, h3⟩ := h.all q j hq
      exact ⟨a, List.mem_filter.2 ⟨h1, by simpa [h3] using e⟩, h2, h3⟩
/-- how many leave -/
theorem Doc.gone {A : Path → Int → Nat} {rs : List AskV} (h : Doc A rs) (i : Int) {L : List Path} (h1 : L.Nodup) (h2 : ∀ q, q ∈ L ↔ 0 < A q i) : (rs.filter fun a => decide (a.id = i)).length = L.length := by
  have hn : ((rs.filter fun a => decide (a.id = i)).map fun a => Tp.lev a.f).Nodup := by
    rw [List.Nodup, List.pairwise_map]
    refine pw_mono (List.Pairwise.filter _ h.one) (fun a b ha hb hab e => hab ⟨Tp.lev_inj e, ?_⟩)
    have e1 : a.id = i := by simpa using (List.mem_filter.1 ha).2
    have e2 : b.id = i := by simpa using (List.mem_filter.1 hb).2
    rw [e1, e2]
  have a1 := nodup_le hn (S := L) (fun q hq => by
    obtain ⟨a, ha, rfl⟩ := List.mem_map.1 hq
    obtain ⟨h3, h4⟩ := List.mem_filter.1 ha
    have e1 : a.id = i := by simpa using h4
    rw [h2, ← e1, h.at_ a h3]
    exact h.pos a h3)
  have a2 := nodup_le h1 (S := (rs.filter fun a => decide (a.id = i)).map fun a => Tp.lev a.f) (fun q hq => by
    obtain ⟨a, h3, h4, h5⟩ := h.all q i ((h2 q).1 hq)
    exact List.mem_map.2 ⟨a, List.mem_filter.2 ⟨h3, by simpa using h5⟩, h4⟩)
  rw [List.length_map] at a1 a2
  omega

/-- a number in its place, once -/
def insI (n : Int) : List Int → List Int
  | [] => [n]
  | x :: l => if x < n then x :: insI n l else if x = n then x :: l else n :: x :: l
theorem insI_mem (n : Int) : ∀ (l : List Int) (i : Int), i ∈ insI n l ↔ i = n ∨ i ∈ l
  | [], i => by simp [insI]
  | x :: l, i => by
    unfold insI
    split
    · rw [List.mem_cons, insI_mem n l i, List.mem_cons]
      constructor
      · rintro (h | h | h) <;> simp [h]
      · rintro (h | h | h) <;> simp [h]
    · split
      · next e => subst e; simp
      · simp
theorem insI_sorted (n : Int) : ∀ (l : List Int), l.Pairwise (· < ·) → (insI n l).Pairwise (· < ·)
  | [], _ => List.pairwise_singleton _ _
  | x :: l, h => by
    obtain ⟨h1, h2⟩ := List.pairwise_cons.1 h
    unfold insI
    split
    · next e =>
      refine List.pairwise_cons.2 ⟨fun y hy => ?_, insI_sorted n l h2⟩
      rcases (insI_mem n l y).1 hy with rfl | hy
      · exact e
      · exact h1 y hy
    · split
      · exact h
      · next e1 e2 =>
        have hn : n < x := by omega
        refine List.pairwise_cons.2 ⟨fun y hy => ?_, h⟩
        rcases List.mem_cons.1 hy with rfl | hy
        · exact hn
        · have := h1 y hy; omega
end Go.Proofs.YtalebnhkidhglaaGreat

namespace Go.Proofs.YtalebnhkidhglaaGreat
open Go.ChangeShapes Go.WideShapes Go.ChangeAt Go.RowKit Go.Maps

def AskV.cells (a : AskV) : List Value := [str a.f, .int .i64 a.id, .int .i64 a.n]
def OwnA (w : World) (base : Nat) (v : Value) (rs : List AskV) : Prop := w.ownsRow base 67 3 v rs.length (rs.flatMap AskV.cells)
theorem flat3 : ∀ (rs : List AskV) (k j : Nat), j < 3 → (rs.flatMap AskV.cells)[k * 3 + j]? = (rs[k]?).bind fun o => o.cells[j]?
  | [], k, j, _ => by simp
  | o :: rs, 0, j, hj => by
    rw [List.flatMap_cons, List.getElem?_append_left (by simp [AskV.cells]; omega)]
    simp
  | o :: rs, k + 1, j, hj => by
    rw [List.flatMap_cons, List.getElem?_append_right (by simp [AskV.cells]; omega)]
    have : (k + 1) * 3 + j - o.cells.length = k * 3 + j := by simp [AskV.cells]; omega
    rw [this, flat3 rs k j hj]
    rfl
theorem OwnA.at {w : World} {base : Nat} {a : Option Addr} {n cap : Nat} {rs : List AskV} (h : OwnA w base (.slice a n cap) rs) {k : Nat} (hk : k < rs.length) :
    ∃ g, ∃ p : ByteArray, a = some ⟨g, 0, none⟩ ∧ cap ≤ maxLen ∧ n ≤ cap ∧ p.data.toList = rs[k].f ∧ w.cell? ⟨g, k * 3, none⟩ = some (.string p) ∧ w.cell? ⟨g, k * 3 + 1, none⟩ = some (.int .i64 rs[k].id) ∧ w.cell? ⟨g, k * 3 + 2, none⟩ = some (.int .i64 rs[k].n) := by
  rcases h.2 with ⟨_, h0⟩ | ⟨g, cap', cur, e, hb, hg, h1, h2, h3, h4⟩
  · rw [h0] at hk; omega
  · cases e
    have hc : ∀ j, j < 3 → w.cell? ⟨g, k * 3 + j, none⟩ = rs[k].cells[j]? := fun j hj => by
      have := World.ownsRow.cellAt (w := w) (base := base) (e := 67) (size := 3) (g := g) (cap := cap) (n := rs.length) (xs := rs.flatMap AskV.cells) h (k * 3 + j) (by omega)
      rw [this, flat3 rs k j hj, List.getElem?_eq_getElem hk]
      rfl
    obtain ⟨p, hp, _, lp⟩ := name_str rs[k].f
    refine ⟨g, p, rfl, h2, h1, lp, ?_, hc 1 (by omega), hc 2 (by omega)⟩
    rw [← hp]
    exact hc 0 (by omega)
/-- the document's trie behind a pointer -/
def DocAt (w : World) (base r : Nat) (rs : List AskV) : Prop := ∃ a cap, w.cell? ⟨r, 0, none⟩ = some (.slice a rs.length cap) ∧ OwnA w base (.slice a rs.length cap) rs

set_option maxHeartbeats 2000000 in
set_option maxRecDepth 100000 in
theorem rplace_any (w : World) (base r : Nat) (rs : List AskV) (h : DocAt w base r rs) (f : ByteArray) (i : Int) :
    Calls Tryz.prog 43 #[.pointer (some ⟨r, 0, none⟩), .string f, .int .i64 i] w fun e w' => Kept w w' ∧ ((∃ k, ∃ hk : k < rs.length, e = .returned (.int .i64 k) ∧ rs[k].f = f.data.toList ∧ rs[k].id = i) ∨ (e = .returned (.int .i64 (-1)) ∧ ∀ a ∈ rs, ¬ (a.f = f.data.toList ∧ a.id = i))) := by
  obtain ⟨a, cap, hc, ho⟩ := h
  have HO := Lib.hid ho
  have HC := Lib.hid hc
  have hrl : rs.length ≤ 9223372036854775807 := by
    rcases ho.2 with ⟨_, h0⟩ | ⟨_, cap, _, e, _, _, h0, h1, _⟩
    · omega
    · unfold maxLen at h1; omega
  clear ho hc
  go_enter Tryz.func43, Tryz.ntmps43
  go_wp2
  go_loopw [7] (fun iv wr => ∃ (k : Nat), k ≤ rs.length ∧ iv = .int .i64 k ∧ (∀ j (hj : j < rs.length), j < k → ¬ (rs[j].f = f.data.toList ∧ rs[j].id = i)) ∧ Kept w wr) (fun iv _ => rs.length - (intOf iv).toNat)
  case atStart => exact ⟨0, Nat.zero_le _, rfl, fun j _ hj => by omega, Kept.refl _⟩
  case round =>
    obtain ⟨k, hk, rfl, hno, kk⟩ := hrel
    have HNO := Lib.hid hno
    have hcr := (Below.cell kk (p := ⟨r, 0, none⟩) (World.block_lt_of_cell? w _ HC.out)).trans HC.out
    clear hno
    by_cases hlt : k < rs.length
    · obtain ⟨g, p, rfl, hcm, hcl, lp, d0, d1, d2⟩ := HO.out.at hlt
      unfold maxLen at hcm
      have s0 := ((Below.cell kk (p := ⟨g, k * 3, none⟩) (World.block_lt_of_cell? w _ d0)).trans d0)
      have s1 := ((Below.cell kk (p := ⟨g, k * 3 + 1, none⟩) (World.block_lt_of_cell? w _ d1)).trans d1)
      obtain ⟨x, hx⟩ : ∃ x, rs[k].id = x := ⟨_, rfl⟩
      rw [hx] at s1
      have HX := Lib.hid hx
      have LP := Lib.hid lp
      clear d0 d1 d2 hx lp
      by_cases he : p.toList = f.toList
      · have e1 : (p.toList == f.toList) = true := by rw [beq_iff_eq]; exact he
        have HE : Hid (rs[k].f = f.data.toList) := by
          show _ = _
          rw [← LP.out, ← toList_eq, ← toList_eq, he]
        clear he
        by_cases hi : x = i
        · have e2 : (x == i) = true := by rw [beq_iff_eq]; exact hi
          have HI := Lib.hid hi
          clear hi
          go_wp2
          go_ret
          exact ⟨kk, .inl ⟨k, hlt, rfl, HE.out, by rw [HX.out, HI.out]⟩⟩
        · have e2 : (x == i) = false := by rw [beq_eq_false_iff_ne]; exact hi
          have HN : Hid (¬ (rs[k].f = f.data.toList ∧ rs[k].id = i)) := by
            rintro ⟨_, h⟩
            rw [HX.out] at h
            exact hi h
          clear hi
          go_wp2
          go_roundw
          case rel =>
            have step : ∀ j (hj : j < rs.length), j < k + 1 → ¬ (rs[j].f = f.data.toList ∧ rs[j].id = i) := fun j hj hjk => by
              by_cases e : j = k
              · subst e; exact HN.out
              · exact HNO.out j hj (by omega)
            (first
              | exact ⟨k + 1, by omega, by go_num, step, kk⟩
              | (repeat apply Exists.intro
                 refine ⟨?_, rfl⟩
                 exact ⟨k + 1, by omega, by go_num, step, kk⟩))
          case measure => simp [intOf]; omega
      · have e1 : (p.toList == f.toList) = false := by rw [beq_eq_false_iff_ne]; exact he
        have HN : Hid (¬ (rs[k].f = f.data.toList ∧ rs[k].id = i)) := by
          rintro ⟨h, _⟩
          rw [← LP.out, ← toList_eq, ← toList_eq] at h
          exact he h
        clear he
        go_wp2
        go_roundw
        case rel =>
          have step : ∀ j (hj : j < rs.length), j < k + 1 → ¬ (rs[j].f = f.data.toList ∧ rs[j].id = i) := fun j hj hjk => by
            by_cases e : j = k
            · subst e; exact HN.out
            · exact HNO.out j hj (by omega)
          (first
            | exact ⟨k + 1, by omega, by go_num, step, kk⟩
            | (repeat apply Exists.intro
               refine ⟨?_, rfl⟩
               exact ⟨k + 1, by omega, by go_num, step, kk⟩))
        case measure => simp [intOf]; omega
    · go_wp2
      go_ret
      refine ⟨kk, .inr ⟨rfl, fun b hb => ?_⟩⟩
      obtain ⟨j, hj, rfl⟩ := List.mem_iff_getElem.1 hb
      exact HNO.out j hj (by omega)
end Go.Proofs.YtalebnhkidhglaaGreat

namespace Go.Proofs.YtalebnhkidhglaaGreat
open Go.ChangeShapes Go.WideShapes Go.ChangeAt Go.RowKit Go.Maps

theorem kept_cell {w w' : World} (k : Kept w w') {g a : Nat} {x : Value} (h : w.cell? ⟨g, a, none⟩ = some x) : w'.cell? ⟨g, a, none⟩ = some x :=
  (Below.cell k (p := ⟨g, a, none⟩) (World.block_lt_of_cell? w _ h)).trans h

set_option maxHeartbeats 2000000 in
set_option maxRecDepth 100000 in
theorem rhas_any (w : World) (base r : Nat) (rs : List AskV) (h : DocAt w base r rs) (A : Path → Int → Nat) (hd : Doc A rs) (f : ByteArray) (i : Int) :
    Calls Tryz.prog 20 #[.pointer (some ⟨r, 0, none⟩), .string f, .int .i64 i] w fun e w' => e = .returned (.int .i64 (A (Tp.lev f.data.toList) i)) ∧ Kept w w' := by
  have cp := rplace_any w base r rs h f i
  obtain ⟨a, cap, hc, ho⟩ := h
  have HO := Lib.hid ho
  have HC := Lib.hid hc
  have HD := Lib.hid hd
  clear ho hc hd
  go_enter Tryz.func20, Tryz.ntmps20
  go_wp2_with fail
  refine cp.mono ?_
  rintro e w1 ⟨k1, ⟨k, hk, rfl, e1, e2⟩ | ⟨rfl, hno⟩⟩
  · obtain ⟨g, p, rfl, hcm, hcl, lp, d0, d1, d2⟩ := HO.out.at hk
    unfold maxLen at hcm
    have hn := HD.out.at_ rs[k] (List.getElem_mem hk)
    rw [e1, e2] at hn
    have s2 := kept_cell k1 d2
    have sr := kept_cell k1 HC.out
    obtain ⟨m, hm⟩ : ∃ m, rs[k].n = m := ⟨_, rfl⟩
    rw [hm] at s2 hn
    have HN := Lib.hid hn
    clear d0 d1 d2 lp hn cp hm e1 e2
    go_wp2
    go_ret
    exact ⟨by rw [HN.out]; rfl, k1⟩
  · have HN := Lib.hid (HD.out.no hno)
    clear cp hno
    go_wp2
    go_ret
    exact ⟨by rw [HN.out]; rfl, k1⟩
end Go.Proofs.YtalebnhkidhglaaGreat
