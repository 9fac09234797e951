/-
  What lies beside a log and its disk is as it was when they are written.
-/
import Derived.Test.YtenhncohhikllaaDoorWrun
import Derived.Test.YtenhncohhikllaaDoorWcut
namespace Go.Proofs.YtenhncohhikllaaDoor
open Go.ChangeShapes Go.WideShapes Go.ChangeAt Go.RowKit

theorem type_ne {w : World} {i : Nat} {c1 c2 : Array Value} {t1 t2 : TypeId} {f1 f2 : Nat × Nat} (h1 : w.heap[i]? = some (.cells c1 t1 f1)) (h2 : w.heap[i]? = some (.cells c2 t2 f2)) (h : t1 ≠ t2) : False := by
  rw [h1] at h2
  injection h2 with h2
  injection h2 with _ h3
  exact h h3
/-- a block that is of none of their types is none of theirs -/
theorem LD.not {w : World} {base b d : Nat} {K : Dk.Fl} {v : Value} {ws : List Dk.W} {x : Wg.St} {lv : Value} {sure : Nat} (o : LD w base b d K v ws x lv sure) {i : Nat} {c : Array Value} {t : TypeId} {fz : Nat × Nat} (h : w.heap[i]? = some (.cells c t fz)) (h1 : t ≠ 68) (h2 : t ≠ 61) (h3 : t ≠ 85) (h4 : t ≠ 9) : ¬ LS b d v lv i := by
  rintro (rfl | rfl | e | e)
  · exact type_ne h o.log.blk h1
  · exact type_ne h o.dsk.blk h2
  · obtain ⟨_, cur, hg⟩ := o.dsk.row.blk e
    exact type_ne h hg h3
  · obtain ⟨_, cur, hg⟩ := o.log.row.blk e
    exact type_ne h hg h4
theorem LD.tx {w w' : World} {base b d : Nat} {K : Dk.Fl} {v : Value} {ws : List Dk.W} {x : Wg.St} {lv : Value} {sure : Nat} (o : LD w base b d K v ws x lv sure) (f : But (LS b d v lv) w w') {base' : Nat} {r : Value} {l : List (List UInt8)} (h : Tx w base' r l) (ap : RApart lv r) : Tx w' base' r l := by
  refine h.but f fun i e => ?_
  obtain ⟨_, cur, hg⟩ := h.blk e
  rintro (rfl | rfl | e' | e')
  · exact type_ne hg o.log.blk (by decide)
  · exact type_ne hg o.dsk.blk (by decide)
  · obtain ⟨_, cur, hg'⟩ := o.dsk.row.blk e'
    exact type_ne hg hg' (by decide)
  · exact ap i e' e
theorem LD.off {w w' : World} {base b d : Nat} {K : Dk.Fl} {v : Value} {ws : List Dk.W} {x : Wg.St} {lv : Value} {sure : Nat} (o : LD w base b d K v ws x lv sure) (f : But (LS b d v lv) w w') {base' sz n : Nat} {et : TypeId} {r : Value} {xs : List Value} (h : OffV et sz w base' r n xs) (h1 : et ≠ 68) (h2 : et ≠ 61) (h3 : et ≠ 85) (h4 : et ≠ 9) : OffV et sz w' base' r n xs := by
  refine h.but f fun i e => ?_
  obtain ⟨_, cur, hg⟩ := h.blk e
  exact o.not hg h1 h2 h3 h4
theorem LD.lg {w w' : World} {base b d : Nat} {K : Dk.Fl} {v : Value} {ws : List Dk.W} {x : Wg.St} {lv : Value} {sure : Nat} (o : LD w base b d K v ws x lv sure) (f : But (LS b d v lv) w w') {base' b' d' : Nat} {x' : Wg.St} {lv' : Value} {sure' : Nat} (h : Lg w base' b' d' x' lv' sure') (hb : b' ≠ b) (ap : RApart lv lv') : Lg w' base' b' d' x' lv' sure' := by
  refine ⟨f.at h.blk ?_, h.low, o.tx f h.row ap, h.few⟩
  rintro (e | e | e | e)
  · exact hb e
  · subst e
    exact type_ne h.blk o.dsk.blk (by decide)
  · obtain ⟨_, cur, hg⟩ := o.dsk.row.blk e
    exact type_ne h.blk hg (by decide)
  · obtain ⟨_, cur, hg⟩ := o.log.row.blk e
    exact type_ne h.blk hg (by decide)
theorem LD.dk {w w' : World} {base b d : Nat} {K : Dk.Fl} {v : Value} {ws : List Dk.W} {x : Wg.St} {lv : Value} {sure : Nat} (o : LD w base b d K v ws x lv sure) (f : But (LS b d v lv) w w') {base' d' : Nat} {K' : Dk.Fl} {v' : Value} {ws' : List Dk.W} (h : Dsk w base' d' K' v' ws') (hd : d' ≠ d) (ap : RApart v v') : Dsk w' base' d' K' v' ws' := by
  refine h.but f ?_ ?_
  · rintro (e | e | e | e)
    · subst e
      exact type_ne h.blk o.log.blk (by decide)
    · exact hd e
    · obtain ⟨_, cur, hg⟩ := o.dsk.row.blk e
      exact type_ne h.blk hg (by decide)
    · obtain ⟨_, cur, hg⟩ := o.log.row.blk e
      exact type_ne h.blk hg (by decide)
  · intro i e
    obtain ⟨_, cur, hg⟩ := h.row.blk e
    rintro (rfl | rfl | e' | e')
    · exact type_ne hg o.log.blk (by decide)
    · exact type_ne hg o.dsk.blk (by decide)
    · exact ap i e' e
    · obtain ⟨_, cur, hg'⟩ := o.log.row.blk e'
      exact type_ne hg hg' (by decide)
theorem LD.over {w w' : World} {base b d : Nat} {K : Dk.Fl} {v : Value} {ws : List Dk.W} {x : Wg.St} {lv : Value} {sure : Nat} (o : LD w base b d K v ws x lv sure) (f : But (LS b d v lv) w w') {base' b' d' : Nat} {K' : Dk.Fl} {v' : Value} {ws' : List Dk.W} {x' : Wg.St} {lv' : Value} {sure' : Nat} (h : LD w base' b' d' K' v' ws' x' lv' sure')
    (hb : b' ≠ b) (hd : d' ≠ d) (ap1 : RApart v v') (ap2 : RApart lv lv') : LD w' base' b' d' K' v' ws' x' lv' sure' := ⟨o.dk f h.dsk hd ap1, o.lg f h.log hb ap2, h.ap⟩
/-- a disk alone is written -/
theorem Dsk.tx {w w' : World} {base d : Nat} {K : Dk.Fl} {v : Value} {ws : List Dk.W} (o : Dsk w base d K v ws) (f : But (fun i => i = d ∨ v.ownBlock = some i) w w') {base' : Nat} {r : Value} {l : List (List UInt8)} (h : Tx w base' r l) : Tx w' base' r l := by
  refine h.but f fun i e => ?_
  obtain ⟨_, cur, hg⟩ := h.blk e
  rintro (rfl | e')
  · exact type_ne hg o.blk (by decide)
  · obtain ⟨_, cur, hg'⟩ := o.row.blk e'
    exact type_ne hg hg' (by decide)
theorem Dsk.off {w w' : World} {base d : Nat} {K : Dk.Fl} {v : Value} {ws : List Dk.W} (o : Dsk w base d K v ws) (f : But (fun i => i = d ∨ v.ownBlock = some i) w w') {base' sz n : Nat} {et : TypeId} {r : Value} {xs : List Value} (h : OffV et sz w base' r n xs) (h2 : et ≠ 61) (h3 : et ≠ 85) : OffV et sz w' base' r n xs := by
  refine h.but f fun i e => ?_
  obtain ⟨_, cur, hg⟩ := h.blk e
  rintro (rfl | e')
  · exact type_ne hg o.blk h2
  · obtain ⟨_, cur, hg'⟩ := o.row.blk e'
    exact type_ne hg hg' h3
/-- a log over one disk is not touched by what another disk is written -/
theorem Dsk.pair {w w' : World} {base d : Nat} {K : Dk.Fl} {v : Value} {ws : List Dk.W} (o : Dsk w base d K v ws) (f : But (fun i => i = d ∨ v.ownBlock = some i) w w') {base' b' d' : Nat} {K' : Dk.Fl} {v' : Value} {ws' : List Dk.W} {x' : Wg.St} {lv' : Value} {sure' : Nat} (h : LD w base' b' d' K' v' ws' x' lv' sure')
    (hd : d' ≠ d) (ap : RApart v v') : LD w' base' b' d' K' v' ws' x' lv' sure' := by
  refine ⟨h.dsk.over o hd ap.symm f, ⟨f.at h.log.blk ?_, h.log.low, o.tx f h.log.row, h.log.few⟩, h.ap⟩
  rintro (e | e)
  · subst e
    exact type_ne h.log.blk o.blk (by decide)
  · obtain ⟨_, cur, hg⟩ := o.row.blk e
    exact type_ne h.log.blk hg (by decide)

/-- the law's calls, cut -/
theorem law_cut (av : Option Addr) (len cap : Nat) (z : Nat → OpV) (w : World) (h : OpArg w av len cap z) :
    Calls Tryd.prog 9 #[.slice av len cap] w fun e w' => ∃ a c, ∃ os : List OpV, e = .returned (.slice a os.length c) ∧ OwnO w' w.heap.size (.slice a os.length c) os ∧ os.length ≤ 40 ∧ (∀ o ∈ os, o.s.size ≤ 60 ∧ -9223372036854775808 ≤ o.n ∧ o.n ≤ 9223372036854775807) ∧ Kept w w' := by
  refine (cut_any_ops av len cap z w h).mono ?_
  rintro e w' ⟨v, rfl, ho, hk⟩
  obtain ⟨a, c, hv⟩ : ∃ a c, v = .slice a ((List.range (min len 40)).map fun i => (z i).cut).length c := by
    obtain ⟨_, h⟩ := ho
    rcases h with ⟨rfl, hn⟩ | ⟨g, cap, cur, rfl, _⟩
    · exact ⟨none, 0, by rw [hn]⟩
    · exact ⟨_, cap, rfl⟩
  subst hv
  refine ⟨a, c, _, rfl, ho, ?_, ?_, hk⟩
  · rw [List.length_map, List.length_range]; omega
  · intro o hm
    obtain ⟨i, _, rfl⟩ := List.mem_map.1 hm
    refine ⟨?_, ?_⟩
    · show (ByteArray.extract _ _ _).size ≤ 60
      rw [ByteArray.size_extract]
      omega
    · exact bounds_i64 (h.2.2.1 i).2.2
theorem flat3 : ∀ (os : List OpV) (k j : Nat) (hk : k < os.length), j < 3 → (os.flatMap OpV.cells)[k * 3 + j]? = os[k].cells[j]?
  | [], k, _, hk, _ => by cases hk
  | x :: l, 0, j, _, hj => by
    rw [List.flatMap_cons, List.getElem?_append_left (by simp only [OpV.cells, List.length_cons, List.length_nil]; omega), Nat.zero_mul, Nat.zero_add]
    rfl
  | x :: l, k + 1, j, hk, hj => by
    rw [List.flatMap_cons, List.getElem?_append_right (by simp only [OpV.cells, List.length_cons, List.length_nil]; omega)]
    have e : (k + 1) * 3 + j - (OpV.cells x).length = k * 3 + j := by simp only [OpV.cells, List.length_cons, List.length_nil]; omega
    rw [e, flat3 l k j (by simpa using hk) hj]
    rfl
/-- a call of the row, in a world that kept it -/
theorem OwnO.at {w wr : World} {base : Nat} {a : Option Addr} {n c : Nat} {os : List OpV} (h : OwnO w base (.slice a n c) os) (K : Kept w wr) {k : Nat} (hk : k < os.length) :
    n ≤ c ∧ c ≤ maxLen ∧ ∃ g, a = some ⟨g, 0, none⟩ ∧ wr.cell? ⟨g, k * 3, none⟩ = some (.int .i64 os[k].kind) ∧ wr.cell? ⟨g, k * 3 + 1, none⟩ = some (.string os[k].s) ∧ wr.cell? ⟨g, k * 3 + 2, none⟩ = some (.int .i64 os[k].n) := by
  rcases h.2 with ⟨_, h0⟩ | ⟨g, cap', cur, e, hb, hg, h1, h2, h3, h4⟩
  · rw [h0] at hk; omega
  · cases e
    have hc : ∀ j, j < 3 → wr.cell? ⟨g, k * 3 + j, none⟩ = os[k].cells[j]? := fun j hj => by
      have := World.ownsRow.cellAt (w := w) (base := base) (e := 40) (size := 3) (g := g) (cap := c) (n := os.length) (xs := os.flatMap OpV.cells) h (k * 3 + j) (by omega)
      rw [Below.cell K (p := ⟨g, k * 3 + j, none⟩) (heap_lt hg), this, flat3 os k j hk hj]
    exact ⟨h1, h2, g, rfl, hc 0 (by omega), hc 1 (by omega), hc 2 (by omega)⟩
end Go.Proofs.YtenhncohhikllaaDoor
