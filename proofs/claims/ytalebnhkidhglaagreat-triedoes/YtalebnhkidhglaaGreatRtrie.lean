/-
  A trie as its callers have it: the walks of New, Add, Drop, Has.
-/
import Derived.Test.YtalebnhkidhglaaGreatRclone
import Derived.Test.YtalebnhkidhglaaGreatTlevels
import Derived.Deep.RegionHeld3
namespace Go.Proofs.YtalebnhkidhglaaGreat
open Go.ChangeShapes Go.WideShapes Go.ChangeAt Go.RowKit Go.Maps

structure Tri (w : World) (n t : Nat) (N : Path → Option Loc) (A : Path → Int → Nat) : Prop where
  trie : TrieAt w n N A
  obj : ∃ l, N [] = some l ∧ w.heap[t]? = some (.cells #[.pointer (some ⟨l.b, 0, none⟩)] 51 (0, 0))
  fine : ∀ p i, 0 < A p i → Tp.filter (Tp.join p) = true ∧ Tp.lev (Tp.join p) = p ∧ 0 ≤ i
  some_ : ∃ S : List Path, S.length ≤ n ∧ ∀ q i, 0 < A q i → q ∈ S
theorem Tri.tno {w : World} {n t : Nat} {N : Path → Option Loc} {A : Path → Int → Nat} (h : Tri w n t N A) : ¬ Of N t := by
  obtain ⟨l, _, ht⟩ := h.obj
  exact h.trie.other ht ⟨fun _ _ e => (by cases e), fun _ _ e => (by cases e)⟩
theorem Tri.lt {w : World} {n t : Nat} {N : Path → Option Loc} {A : Path → Int → Nat} (h : Tri w n t N A) : t < w.heap.size := by
  obtain ⟨l, _, ht⟩ := h.obj
  exact heap_lt ht
theorem Tri.kept {w w' : World} {n t : Nat} {N : Path → Option Loc} {A : Path → Int → Nat} (h : Tri w n t N A) (k : Kept w w') : Tri w' n t N A := by
  obtain ⟨l, h1, h2⟩ := h.obj
  exact ⟨h.trie.kept k, ⟨l, h1, (Below.block k _ (heap_lt h2)).trans h2⟩, h.fine, h.some_⟩
theorem Tri.but {S : Nat → Prop} {w w' : World} {n t : Nat} {N : Path → Option Loc} {A : Path → Int → Nat} (h : Tri w n t N A) (k : But S w w') (hs : ∀ i, Of N i ∨ i = t → ¬ S i) : Tri w' n t N A := by
  obtain ⟨l, h1, h2⟩ := h.obj
  exact ⟨h.trie.but k (fun i hi => hs i (.inl hi)), ⟨l, h1, k.at h2 (hs t (.inr rfl))⟩, h.fine, h.some_⟩
theorem Tri.mono {w : World} {n n' t : Nat} {N : Path → Option Loc} {A : Path → Int → Nat} (h : Tri w n t N A) (hn : n ≤ n') : Tri w n' t N A := by
  obtain ⟨S, h1, h2⟩ := h.some_
  exact ⟨h.trie.mono hn, h.obj, h.fine, S, Nat.le_trans h1 hn, h2⟩
/-- a trie goes on -/
theorem Tri.next {w w' : World} {n n' t : Nat} {N N' : Path → Option Loc} {A A' : Path → Int → Nat} (h : Tri w n t N A) (hT : TrieAt w' n' N' A') (hM : Moves N N' [] w w') (hf : ∀ p i, 0 < A' p i → Tp.filter (Tp.join p) = true ∧ Tp.lev (Tp.join p) = p ∧ 0 ≤ i)
    (hs : ∃ S : List Path, S.length ≤ n' ∧ ∀ q i, 0 < A' q i → q ∈ S) : Tri w' n' t N' A' := by
  obtain ⟨l, h1, h2⟩ := h.obj
  exact ⟨hT, ⟨l, by rw [hM.same [] (fun h => h.2 rfl)]; exact h1, hM.but.at h2 (fun hu => h.tno hu.of)⟩, hf, hs⟩

theorem TrieAt.single' {w : World} {n : Nat} {m : Loc} (h : NodeAt w n m (fun _ => none) (fun _ => 0)) (hca : m.c ≠ m.a) : TrieAt w n (fun q => if q = [] then some m else none) (fun _ _ => 0) := by
  have h1 := TrieAt.single h hca (fun _ => Nat.zero_le n)
  have e : (fun q : Path => if q = [] then (fun _ : Int => 0) else fun _ => 0) = fun _ _ => 0 := funext fun q => by split <;> rfl
  rwa [e] at h1
theorem box_cell {w : World} {t : Nat} {v : Value} {e : TypeId} (h : w.heap[t]? = some (.cells #[v] e (0, 0))) : w.cell? ⟨t, 0, none⟩ = some v := by simp [World.cell?, h]

set_option maxHeartbeats 1000000 in
set_option maxRecDepth 100000 in
theorem new_any (w : World) : Calls Tryz.prog 5 #[] w fun e w' => ∃ t N, e = .returned (.pointer (some ⟨t, 0, none⟩)) ∧ Tri w' 0 t N (fun _ _ => 0) ∧ Kept w w' ∧ ∀ i, Of N i ∨ i = t → w.heap.size ≤ i := by
  go_enter Tryz.func5, Tryz.ntmps5
  go_wp2_with fail
  refine (newNode_any _).mono ?_
  rintro e w1 ⟨m, rfl, hm, k1, hb, hc, ha, hca⟩
  have HM := Lib.hid hm
  clear hm
  go_wp2
  go_ret
  have k2 := kept_alloc w1 (.cells #[.pointer (some ⟨m.b, 0, none⟩)] 51)
  have hs := TrieAt.single' (HM.out.but (S := fun _ => False) k2.but id id id) hca
  refine ⟨w1.heap.size, _, rfl, ⟨hs, ⟨m, rfl, new_heap w1 _⟩, fun p i h => by simp at h, [], Nat.le_refl _, fun q i h => by simp at h⟩, k1.trans k2, fun i hi => ?_⟩
  rcases hi with ⟨q, l, hq, e⟩ | rfl
  · by_cases e' : q = []
    · subst e'; simp only [if_true] at hq; cases hq
      rcases e with rfl | rfl | rfl <;> assumption
    · (try dsimp only at hq); rw [if_neg e'] at hq; cases hq
  · exact k1.size

/-- may somebody ask for it? -/
def okF (f : List UInt8) (i : Int) : Bool := Tp.filter f && decide (0 ≤ i)

set_option maxHeartbeats 1000000 in
set_option maxRecDepth 100000 in
theorem right_trie (f : ByteArray) (i : Int) (w : World) (hf : f.size ≤ 281474976710656) :
    Calls Tryz.prog 24 #[.string f, .int .i64 i] w fun e w' => e = .returned (.bool (okF f.data.toList i)) ∧ Kept w w' := by
  unfold okF
  go_enter Tryz.func24, Tryz.ntmps24
  go_wp2_with fail
  refine (filter_any f _ hf).mono ?_
  rintro e w1 ⟨rfl, k1⟩
  cases h : Tp.filter f.data.toList
  · go_wp2
    go_ret
    exact ⟨by rw [h]; rfl, k1⟩
  · go_wp2
    go_ret
    refine ⟨?_, k1⟩
    refine Eq.trans (b := Ending.returned (.bool (decide (0 ≤ i)))) rfl ?_
    rw [h]; rfl

theorem filt_mem : ∀ xs : Path, Tp.filt xs = true → ∀ x ∈ xs, Tp.part x = true ∨ x = Tp.hash
  | [], _, x, hx => by cases hx
  | [y], h, x, hx => by
    rw [List.mem_singleton] at hx
    subst hx
    simpa [Tp.filt] using h
  | y :: z :: r, h, x, hx => by
    simp only [Tp.filt, Bool.and_eq_true] at h
    rcases List.mem_cons.1 hx with rfl | hx
    · exact .inl h.1
    · exact filt_mem (z :: r) h.2 x hx
theorem Good.of_filter {f : List UInt8} (h : Tp.filter f = true) : Good (Tp.lev f) := by
  have hl := Tp.filter_len h
  have hf := Tp.filter_filt h
  refine ⟨hl, fun x hx => ?_⟩
  refine ⟨?_, ?_, Tp.lev_noslash f _ hx⟩
  all_goals
    rcases filt_mem _ hf x hx with h1 | h1
    · unfold Tp.part at h1
      rw [Bool.or_eq_true] at h1
      rcases h1 with h1 | h1
      · unfold Tp.name at h1
        simp only [Bool.and_eq_true, decide_eq_true_eq] at h1
        first
          | exact h1.1.2
          | (intro e; rw [e] at h1; simp at h1)
      · rw [beq_iff_eq] at h1
        rw [h1]
        first
          | decide
          | exact (by simp)
    · rw [h1]
      first
        | decide
        | exact (by simp)
theorem Good.take {p : Path} (h : Good p) (k : Nat) : Good (p.take k) := ⟨Nat.le_trans (by simp; omega) h.1, fun x hx => h.2 x (List.mem_of_mem_take hx)⟩

def addA (A : Path → Int → Nat) (f : List UInt8) (i : Int) : Path → Int → Nat := if okF f i = true then bump A (Tp.lev f) i (A (Tp.lev f) i + 1) else A
def addV (A : Path → Int → Nat) (f : List UInt8) (i : Int) : Value := if okF f i = true then .tuple #[.int .i64 (A (Tp.lev f) i + 1 : Nat), .int .i64 0] else .tuple #[.int .i64 0, .int .i64 1]
theorem bump_pos {A : Path → Int → Nat} {q : Path} {i : Int} {c : Nat} {p : Path} {j : Int} (h : 0 < bump A q i c p j) : 0 < A p j ∨ (p = q ∧ j = i) := by
  unfold bump at h
  by_cases e : p = q
  · subst e
    rw [upd_same] at h
    by_cases e2 : j = i
    · exact .inr ⟨rfl, e2⟩
    · rw [upd_other _ _ e2] at h; exact .inl h
  · rw [upd_other _ _ e] at h; exact .inl h
theorem ok_fine {f : List UInt8} {i : Int} (h : okF f i = true) : Tp.filter f = true ∧ 0 ≤ i := by
  unfold okF at h
  simpa using h

set_option maxHeartbeats 2000000 in
set_option maxRecDepth 100000 in
theorem Add_any (w : World) (n t : Nat) (hn : n ≤ 1000000) (N : Path → Option Loc) (A : Path → Int → Nat) (hT : Tri w n t N A) (f : ByteArray) (hf : f.size ≤ 1000) (i : Int) (hi : (Lit.int .i64 i).wf = true) :
    Calls Tryz.prog 7 #[.pointer (some ⟨t, 0, none⟩), .string f, .int .i64 i] w fun e w' => e = .returned (addV A f.data.toList i) ∧ ∃ N', Tri w' (n + 9) t N' (addA A f.data.toList i) ∧ Moves N N' [] w w' := by
  obtain ⟨l, hl, hc⟩ := hT.obj
  unfold addV addA
  cases hok : okF f.data.toList i
  · have Hok := Lib.hid hok
    have HT := Lib.hid hT
    clear hok hT
    go_enter Tryz.func7, Tryz.ntmps7
    go_wp2_with fail
    refine (right_trie f i _ (by omega)).mono ?_
    rintro e w1 ⟨rfl, k1⟩
    rw [Hok.out]
    go_wp2
    go_ret2
    exact ⟨rfl, N, by simpa using (HT.out.kept k1).mono (Nat.le_add_right n 9), Moves.of_kept N [] k1⟩
  · have Hok := Lib.hid hok
    have HT := Lib.hid hT
    have HL := Lib.hid hl
    have hg := Good.of_filter (ok_fine hok).1
    have HG := Lib.hid hg
    clear hok hT hg hl
    go_enter Tryz.func7, Tryz.ntmps7
    go_wp2_with fail
    refine (right_trie f i _ (by omega)).mono ?_
    rintro e w1 ⟨rfl, k1⟩
    rw [Hok.out]
    have T1 := HT.out.kept k1
    have c1 := box_cell ((Below.block k1 _ (heap_lt hc)).trans hc)
    have HK1 := Lib.hid k1
    have HT1 := Lib.hid T1
    have kd : Kept w1 w1.drew := Kept.drew (Kept.refl w1)
    have HKD := Lib.hid kd
    have c1d : w1.drew.cell? ⟨t, 0, none⟩ = some (.pointer (some ⟨l.b, 0, none⟩)) := c1
    have htl : t < w1.heap.size := T1.lt
    clear k1 T1 kd
    go_wp2_with fail
    go_region_held3 (fun w' => w'.cell? ⟨t, 0, none⟩ = some (.pointer (some ⟨l.b, 0, none⟩))) (first | exact c1d | exact c2 | exact c3)
      (first
        | (go_at_call 26; refine (levelsof_any f _ (by omega)).mono ?_; rintro e w2 ⟨v2, rfl, o2, k2⟩
           have c2 : w2.cell? ⟨t, 0, none⟩ = some (.pointer (some ⟨l.b, 0, none⟩)) := (Below.cell k2 (p := ⟨t, 0, none⟩) htl).trans c1d
           have T2 := (HT1.out.kept HKD.out).kept k2
           have ca := add_any w2 n hn N A T2.trie [] l HL.out v2 (Tp.lev f.data.toList) (OwnS.strs o2) (fun k _ => HG.out.take k) i hi HG.out.1
           rw [List.nil_append] at ca
           have HT2 := Lib.hid T2
           have HK2 := Lib.hid k2
           clear T2 k2 o2)
        | (go_at_call 25; refine ca.mono ?_; rintro e w3 ⟨rfl, N3, T3, M3⟩
           obtain ⟨l', hl', hc'⟩ := HT2.out.obj
           have c3 : w3.cell? ⟨t, 0, none⟩ = some (.pointer (some ⟨l.b, 0, none⟩)) := (M3.but.cell (p := ⟨t, 0, none⟩) (heap_lt hc') (fun h => HT2.out.tno h.of)).trans c2
           have HT3 := Lib.hid T3
           have HM3 := Lib.hid M3
           clear T3 M3 ca))
    go_wp2
    go_ret2
    obtain ⟨S, hS1, hS2⟩ := HT.out.some_
    refine ⟨rfl, N3, ?_, ((Moves.of_kept N [] HK1.out).trans (Moves.of_kept N [] (HKD.out.trans HK2.out))).trans HM3.out⟩
    refine HT2.out.next HT3.out HM3.out (fun p j hpj => ?_) ⟨Tp.lev f.data.toList :: S, by simp; omega, fun q j hq => ?_⟩
    · rcases bump_pos hpj with h | ⟨rfl, rfl⟩
      · exact HT.out.fine p j h
      · have := ok_fine Hok.out
        rw [Tp.join_lev]
        exact ⟨this.1, rfl, this.2⟩
    · rcases bump_pos hq with h | ⟨rfl, rfl⟩
      · exact List.mem_cons_of_mem _ (hS2 q j h)
      · exact List.mem_cons_self
end Go.Proofs.YtalebnhkidhglaaGreat
