/-
  A script played: the walk of rivuletlaw04.play; a script's calls read.
-/
import Derived.Test.YtalebnhkidhglaaGreatRops
namespace Go.Proofs.YtalebnhkidhglaaGreat
open Go.ChangeShapes Go.WideShapes Go.ChangeAt Go.RowKit Go.Maps

theorem flat4 : ∀ (os : List OpV) (k j : Nat), j < 4 → (os.flatMap OpV.cells)[k * 4 + j]? = (os[k]?).bind fun o => o.cells[j]?
  | [], k, j, _ => by simp
  | o :: os, 0, j, hj => by
    rw [List.flatMap_cons, Nat.zero_mul, Nat.zero_add, List.getElem?_append_left (by simpa [OpV.cells] using hj)]
    simp
  | o :: os, k + 1, j, hj => by
    rw [List.flatMap_cons, List.getElem?_append_right (by simp [OpV.cells]; omega)]
    have : (k + 1) * 4 + j - o.cells.length = k * 4 + j := by simp [OpV.cells]; omega
    rw [this, flat4 os k j hj]
    simp
theorem OwnO.form {w : World} {base : Nat} {v : Value} {os : List OpV} (h : OwnO w base v os) : ∃ a cap, v = .slice a os.length cap := by
  rcases h.2 with ⟨rfl, h0⟩ | ⟨g, cap, cur, rfl, _⟩
  · exact ⟨none, 0, by rw [h0]⟩
  · exact ⟨_, cap, rfl⟩
theorem OwnO.kept {w w' : World} {base : Nat} {v : Value} {os : List OpV} (h : OwnO w base v os) (k : Kept w w') : OwnO w' base v os := own_kept h k
theorem OwnO.moves {w w' : World} {base n : Nat} {v : Value} {os : List OpV} {N N' : Path → Option Loc} {A : Path → Int → Nat} {q : Path} (h : OwnO w base v os) (hT : TrieAt w n N A) (hM : Moves N N' q w w') : OwnO w' base v os := by
  refine row_but h hM.but (fun i hi hu => ?_)
  rcases h.2 with ⟨rfl, _⟩ | ⟨g, cap, cur, rfl, _, hg, _⟩
  · cases hi
  · cases hi
    exact hT.other hg ⟨fun _ _ e => (by cases e), fun _ _ e => (by cases e)⟩ hu.of
/-- a call of the script, in memory -/
theorem OwnO.at {w : World} {base : Nat} {a : Option Addr} {n cap : Nat} {os : List OpV} (h : OwnO w base (.slice a n cap) os) {k : Nat} (hk : k < os.length) :
    ∃ g, a = some ⟨g, 0, none⟩ ∧ cap ≤ maxLen ∧ n ≤ cap ∧ w.cell? ⟨g, k * 4, none⟩ = some (.int .i64 os[k].kind) ∧ w.cell? ⟨g, k * 4 + 1, none⟩ = some (.string os[k].filter) ∧ w.cell? ⟨g, k * 4 + 2, none⟩ = some (.int .i64 os[k].id) ∧ w.cell? ⟨g, k * 4 + 3, none⟩ = some (.string os[k].topic) := by
  rcases h.2 with ⟨_, h0⟩ | ⟨g, cap', cur, e, hb, hg, h1, h2, h3, h4⟩
  · rw [h0] at hk; omega
  · cases e
    have hc : ∀ j, j < 4 → w.cell? ⟨g, k * 4 + j, none⟩ = os[k].cells[j]? := fun j hj => by
      have := World.ownsRow.cellAt (w := w) (base := base) (e := 31) (size := 4) (g := g) (cap := cap) (n := os.length) (xs := os.flatMap OpV.cells) h (k * 4 + j) (by omega)
      rw [this, flat4 os k j hj, List.getElem?_eq_getElem hk]
      rfl
    exact ⟨g, rfl, h2, h1, hc 0 (by omega), hc 1 (by omega), hc 2 (by omega), hc 3 (by omega)⟩

def playA (A : Path → Int → Nat) (o : OpV) : Path → Int → Nat := if o.kind = 0 then addA A o.filter.data.toList o.id else if o.kind = 1 then dropA A o.filter.data.toList o.id else if o.kind = 2 then leaveA A o.id else A
/-- what a call answers -/
def PlayV (A : Path → Int → Nat) (o : OpV) (v : Value) : Prop :=
  (o.kind = 0 → v = addV A o.filter.data.toList o.id) ∧ (o.kind = 1 → v = dropV A o.filter.data.toList o.id) ∧
  (o.kind = 2 → ∃ L : List Path, v = .tuple #[.int .i64 L.length, .int .i64 0] ∧ L.Nodup ∧ ∀ q, q ∈ L ↔ 0 < A q o.id) ∧
  (o.kind ≠ 0 → o.kind ≠ 1 → o.kind ≠ 2 → v = .tuple #[.int .i64 0, .int .i64 0])
theorem addV_form (A : Path → Int → Nat) (f : List UInt8) (i : Int) : ∃ a b, addV A f i = .tuple #[.int .i64 a, .int .i64 b] := by
  unfold addV
  split
  · exact ⟨_, _, rfl⟩
  · exact ⟨_, _, rfl⟩
theorem dropV_form (A : Path → Int → Nat) (f : List UInt8) (i : Int) : ∃ a b, dropV A f i = .tuple #[.int .i64 a, .int .i64 b] := by
  unfold dropV
  split
  · split
    · exact ⟨_, _, rfl⟩
    · exact ⟨_, _, rfl⟩
  · exact ⟨_, _, rfl⟩

set_option maxHeartbeats 2000000 in
set_option maxRecDepth 100000 in
theorem play_from {w0 w : World} (k : Kept w0 w) {n t : Nat} {N : Path → Option Loc} {A : Path → Int → Nat} (h : Tr w0 w n t N A) (hn : n ≤ 1000000) (o : OpV) (hf : o.filter.size ≤ 1000) (hi : (Lit.int .i64 o.id).wf = true) :
    Calls Tryz.prog 9 #[.pointer (some ⟨t, 0, none⟩), .agg #[.int .i64 o.kind, .string o.filter, .int .i64 o.id, .string o.topic]] w fun e w' => ∃ a b, e = .returned (.tuple #[.int .i64 a, .int .i64 b]) ∧ PlayV A o (.tuple #[.int .i64 a, .int .i64 b]) ∧ ∃ N', Tr w0 w' (n + 9) t N' (playA A o) ∧ Kept w0 w' ∧ Moves N N' [] w w' := by
  obtain ⟨K, F, I, T⟩ := o
  have ka := kept_alloc w (.cells #[.int .i64 K, .string F, .int .i64 I, .string T] 31)
  have h1 := Lib.hid (h.kept ka)
  have k1 := k.trans ka
  have KA := Lib.hid ka
  clear h ka
  by_cases h0 : K = 0
  · subst h0
    obtain ⟨a, b, hab⟩ := addV_form A F.data.toList I
    go_enter Tryz.func9, Tryz.ntmps9
    go_wp2_with fail
    have ca := add_from k1 h1.out hn F hf I hi
    rw [hab] at ca
    refine ca.mono ?_
    rintro e w2 ⟨rfl, N2, T2, k2, M2⟩
    have HT2 := Lib.hid T2
    have HM2 := Lib.hid M2
    have HAB := Lib.hid hab
    clear T2 M2 ca hab
    go_wp2
    go_ret2
    exact ⟨a, b, rfl, ⟨fun _ => HAB.out.symm, fun h => (by simp at h), fun h => (by simp at h), fun h => absurd rfl h⟩, N2, HT2.out, k2, (Moves.of_kept N [] KA.out).trans HM2.out⟩
  · have e0 : (K == 0) = false := by simpa using h0
    by_cases h1' : K = 1
    · subst h1'
      obtain ⟨a, b, hab⟩ := dropV_form A F.data.toList I
      go_enter Tryz.func9, Tryz.ntmps9
      go_wp2_with fail
      have ca := drop_from k1 h1.out hn F hf I hi
      rw [hab] at ca
      refine ca.mono ?_
      rintro e w2 ⟨rfl, N2, T2, k2, M2⟩
      have HT2 := Lib.hid T2
      have HM2 := Lib.hid M2
      have HAB := Lib.hid hab
      clear T2 M2 ca hab
      go_wp2
      go_ret2
      exact ⟨a, b, rfl, ⟨fun h => (by simp at h), fun _ => HAB.out.symm, fun h => (by simp at h), fun _ h => absurd rfl h⟩, N2, HT2.out, k2, (Moves.of_kept N [] KA.out).trans HM2.out⟩
    · have e1 : (K == 1) = false := by simpa using h1'
      by_cases h2' : K = 2
      · subst h2'
        go_enter Tryz.func9, Tryz.ntmps9
        go_wp2_with fail
        refine (leave_from k1 h1.out hn I hi).mono ?_
        rintro e w2 ⟨L, rfl, hL1, hL2, N2, T2, k2, M2⟩
        have HT2 := Lib.hid T2
        have HM2 := Lib.hid M2
        have HL1 := Lib.hid hL1
        have HL2 := Lib.hid hL2
        clear T2 M2 hL1 hL2
        go_wp2
        go_ret2
        exact ⟨_, _, rfl, ⟨fun h => (by simp at h), fun h => (by simp at h), fun _ => ⟨L, rfl, HL1.out, HL2.out⟩, fun _ _ h => absurd rfl h⟩, N2, (by have := HT2.out.mono (Nat.le_add_right n 9); exact this), k2, (Moves.of_kept N [] KA.out).trans HM2.out⟩
      · have e2 : (K == 2) = false := by simpa using h2'
        go_enter Tryz.func9, Tryz.ntmps9
        go_wp2
        go_ret2
        refine ⟨0, 0, rfl, ⟨fun h => absurd h h0, fun h => absurd h h1', fun h => absurd h h2', fun _ _ _ => rfl⟩, N, ?_, k1, Moves.of_kept N [] KA.out⟩
        have e3 : playA A ⟨K, F, I, T⟩ = A := by unfold playA; rw [if_neg h0, if_neg h1', if_neg h2']
        rw [e3]
        exact h1.out.mono (Nat.le_add_right n 9)
end Go.Proofs.YtalebnhkidhglaaGreat
