/-
  The document's own trie in memory, and where an ask stands in it.
-/
import Derived.Test.YtalebnhkidhglaaGreatRdocm
import Derived.Test.YtalebnhkidhglaaGreatRquiet
namespace Go.Proofs.YtalebnhkidhglaaGreat
open Go.ChangeShapes Go.WideShapes Go.ChangeAt Go.RowKit Go.Maps

def AskV.cells (a : AskV) : List Value := [str a.f, .int .i64 a.id, .int .i64 a.n]
def OwnA (w : World) (base : Nat) (v : Value) (rs : List AskV) : Prop := w.ownsRow base 67 3 v rs.length (rs.flatMap AskV.cells)
theorem flat3 : ∀ (rs : List AskV) (k j : Nat), j < 3 → (rs.flatMap AskV.cells)[k * 3 + j]? = (rs[k]?).bind fun o => o.cells[j]?
  | [], k, j, _ => by simp
  | o :: rs, 0, j, hj => by
    rw [List.flatMap_cons, List.getElem?_append_left (by simp [AskV.cells]; omega)]
    simp
  | o :: rs, k + 1, j, hj => by
    rw [List.flatMap_cons, List.getElem?_append_right (by simp [AskV.cells]; omega)]
    have : (k + 1) * 3 + j - o.cells.length = k * 3 + j := by simp [AskV.cells]; omega
    rw [this, flat3 rs k j hj]
    rfl
theorem OwnA.at {w : World} {base : Nat} {a : Option Addr} {n cap : Nat} {rs : List AskV} (h : OwnA w base (.slice a n cap) rs) {k : Nat} (hk : k < rs.length) :
    ∃ g, ∃ p : ByteArray, a = some ⟨g, 0, none⟩ ∧ cap ≤ maxLen ∧ n ≤ cap ∧ p.data.toList = rs[k].f ∧ w.cell? ⟨g, k * 3, none⟩ = some (.string p) ∧ w.cell? ⟨g, k * 3 + 1, none⟩ = some (.int .i64 rs[k].id) ∧ w.cell? ⟨g, k * 3 + 2, none⟩ = some (.int .i64 rs[k].n) := by
  rcases h.2 with ⟨_, h0⟩ | ⟨g, cap', cur, e, hb, hg, h1, h2, h3, h4⟩
  · rw [h0] at hk; omega
  · cases e
    have hc : ∀ j, j < 3 → w.cell? ⟨g, k * 3 + j, none⟩ = rs[k].cells[j]? := fun j hj => by
      have := World.ownsRow.cellAt (w := w) (base := base) (e := 67) (size := 3) (g := g) (cap := cap) (n := rs.length) (xs := rs.flatMap AskV.cells) h (k * 3 + j) (by omega)
      rw [this, flat3 rs k j hj, List.getElem?_eq_getElem hk]
      rfl
    obtain ⟨p, hp, _, lp⟩ := name_str rs[k].f
    refine ⟨g, p, rfl, h2, h1, lp, ?_, hc 1 (by omega), hc 2 (by omega)⟩
    rw [← hp]
    exact hc 0 (by omega)
/-- the document's trie behind a pointer -/
def DocAt (w : World) (base r : Nat) (rs : List AskV) : Prop := ∃ a cap, w.cell? ⟨r, 0, none⟩ = some (.slice a rs.length cap) ∧ OwnA w base (.slice a rs.length cap) rs

set_option maxHeartbeats 2000000 in
set_option maxRecDepth 100000 in
theorem rplace_any (w : World) (base r : Nat) (rs : List AskV) (h : DocAt w base r rs) (f : ByteArray) (i : Int) :
    Calls Tryz.prog 43 #[.pointer (some ⟨r, 0, none⟩), .string f, .int .i64 i] w fun e w' => Kept w w' ∧ ((∃ k, ∃ hk : k < rs.length, e = .returned (.int .i64 k) ∧ rs[k].f = f.data.toList ∧ rs[k].id = i) ∨ (e = .returned (.int .i64 (-1)) ∧ ∀ a ∈ rs, ¬ (a.f = f.data.toList ∧ a.id = i))) := by
  obtain ⟨a, cap, hc, ho⟩ := h
  have HO := Lib.hid ho
  have HC := Lib.hid hc
  have hrl : rs.length ≤ 9223372036854775807 := by
    rcases ho.2 with ⟨_, h0⟩ | ⟨_, cap, _, e, _, _, h0, h1, _⟩
    · omega
    · unfold maxLen at h1; omega
  clear ho hc
  go_enter Tryz.func43, Tryz.ntmps43
  go_wp2
  go_loopw [7] (fun iv wr => ∃ (k : Nat), k ≤ rs.length ∧ iv = .int .i64 k ∧ (∀ j (hj : j < rs.length), j < k → ¬ (rs[j].f = f.data.toList ∧ rs[j].id = i)) ∧ Kept w wr) (fun iv _ => rs.length - (intOf iv).toNat)
  case atStart => exact ⟨0, Nat.zero_le _, rfl, fun j _ hj => by omega, Kept.refl _⟩
  case round =>
    obtain ⟨k, hk, rfl, hno, kk⟩ := hrel
    have HNO := Lib.hid hno
    have hcr := (Below.cell kk (p := ⟨r, 0, none⟩) (World.block_lt_of_cell? w _ HC.out)).trans HC.out
    clear hno
    by_cases hlt : k < rs.length
    · obtain ⟨g, p, rfl, hcm, hcl, lp, d0, d1, d2⟩ := HO.out.at hlt
      unfold maxLen at hcm
      have s0 := ((Below.cell kk (p := ⟨g, k * 3, none⟩) (World.block_lt_of_cell? w _ d0)).trans d0)
      have s1 := ((Below.cell kk (p := ⟨g, k * 3 + 1, none⟩) (World.block_lt_of_cell? w _ d1)).trans d1)
      obtain ⟨x, hx⟩ : ∃ x, rs[k].id = x := ⟨_, rfl⟩
      rw [hx] at s1
      have HX := Lib.hid hx
      have LP := Lib.hid lp
      clear d0 d1 d2 hx lp
      by_cases he : p.toList = f.toList
      · have e1 : (p.toList == f.toList) = true := by rw [beq_iff_eq]; exact he
        have HE : Hid (rs[k].f = f.data.toList) := by
          show _ = _
          rw [← LP.out, ← toList_eq, ← toList_eq, he]
        clear he
        by_cases hi : x = i
        · have e2 : (x == i) = true := by rw [beq_iff_eq]; exact hi
          have HI := Lib.hid hi
          clear hi
          go_wp2
          go_ret
          exact ⟨kk, .inl ⟨k, hlt, rfl, HE.out, by rw [HX.out, HI.out]⟩⟩
        · have e2 : (x == i) = false := by rw [beq_eq_false_iff_ne]; exact hi
          have HN : Hid (¬ (rs[k].f = f.data.toList ∧ rs[k].id = i)) := by
            rintro ⟨_, h⟩
            rw [HX.out] at h
            exact hi h
          clear hi
          go_wp2
          go_roundw
          case rel =>
            have step : ∀ j (hj : j < rs.length), j < k + 1 → ¬ (rs[j].f = f.data.toList ∧ rs[j].id = i) := fun j hj hjk => by
              by_cases e : j = k
              · subst e; exact HN.out
              · exact HNO.out j hj (by omega)
            (first
              | exact ⟨k + 1, by omega, by go_num, step, kk⟩
              | (repeat apply Exists.intro
                 refine ⟨?_, rfl⟩
                 exact ⟨k + 1, by omega, by go_num, step, kk⟩))
          case measure => simp [intOf]; omega
      · have e1 : (p.toList == f.toList) = false := by rw [beq_eq_false_iff_ne]; exact he
        have HN : Hid (¬ (rs[k].f = f.data.toList ∧ rs[k].id = i)) := by
          rintro ⟨h, _⟩
          rw [← LP.out, ← toList_eq, ← toList_eq] at h
          exact he h
        clear he
        go_wp2
        go_roundw
        case rel =>
          have step : ∀ j (hj : j < rs.length), j < k + 1 → ¬ (rs[j].f = f.data.toList ∧ rs[j].id = i) := fun j hj hjk => by
            by_cases e : j = k
            · subst e; exact HN.out
            · exact HNO.out j hj (by omega)
          (first
            | exact ⟨k + 1, by omega, by go_num, step, kk⟩
            | (repeat apply Exists.intro
               refine ⟨?_, rfl⟩
               exact ⟨k + 1, by omega, by go_num, step, kk⟩))
        case measure => simp [intOf]; omega
    · go_wp2
      go_ret
      refine ⟨kk, .inr ⟨rfl, fun b hb => ?_⟩⟩
      obtain ⟨j, hj, rfl⟩ := List.mem_iff_getElem.1 hb
      exact HNO.out j hj (by omega)
end Go.Proofs.YtalebnhkidhglaaGreat
