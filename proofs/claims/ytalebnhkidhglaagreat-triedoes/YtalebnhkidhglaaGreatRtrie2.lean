/-
  A trie as its callers have it: the walks of Drop, Has, Leave, Copy.
-/
import Derived.Test.YtalebnhkidhglaaGreatRtrie
namespace Go.Proofs.YtalebnhkidhglaaGreat
open Go.ChangeShapes Go.WideShapes Go.ChangeAt Go.RowKit Go.Maps

def dropA (A : Path → Int → Nat) (f : List UInt8) (i : Int) : Path → Int → Nat := if okF f i = true ∧ A (Tp.lev f) i ≠ 0 then bump A (Tp.lev f) i (A (Tp.lev f) i - 1) else A
def dropV (A : Path → Int → Nat) (f : List UInt8) (i : Int) : Value := if okF f i = true then (if A (Tp.lev f) i = 0 then .tuple #[.int .i64 0, .int .i64 8] else .tuple #[.int .i64 (A (Tp.lev f) i - 1 : Nat), .int .i64 0]) else .tuple #[.int .i64 0, .int .i64 1]
theorem lev_le {f : ByteArray} (hf : f.size ≤ 1000) : ∀ x ∈ Tp.lev f.data.toList, x.length ≤ 1000000 := fun x hx => by
  have := Tp.lev_size _ x hx
  simp at this
  omega
theorem bump_less {A : Path → Int → Nat} {q : Path} {i : Int} {c : Nat} (hc : c ≤ A q i) {p : Path} {j : Int} (h : 0 < bump A q i c p j) : 0 < A p j := by
  rcases bump_pos h with h1 | ⟨rfl, rfl⟩
  · exact h1
  · unfold bump at h
    rw [upd_same, upd_same] at h
    omega

set_option maxHeartbeats 2000000 in
set_option maxRecDepth 100000 in
theorem Drop_any1 (w : World) (n t : Nat) (hn : n ≤ 1000000) (N : Path → Option Loc) (A : Path → Int → Nat) (hT : Tri w n t N A) (f : ByteArray) (hf : f.size ≤ 1000) (i : Int) (hi : (Lit.int .i64 i).wf = true) :
    Calls Tryz.prog 28 #[.pointer (some ⟨t, 0, none⟩), .string f, .int .i64 i] w fun e w' => e = .returned (dropV A f.data.toList i) ∧ ∃ N', Tri w' (n + 1) t N' (dropA A f.data.toList i) ∧ Moves N N' [] w w' := by
  obtain ⟨l, hl, hc⟩ := hT.obj
  cases hok : okF f.data.toList i
  · have Hok := Lib.hid hok
    have HT := Lib.hid hT
    clear hok hT
    go_enter Tryz.func28, Tryz.ntmps28
    go_wp2_with fail
    refine (right_trie f i _ (by omega)).mono ?_
    rintro e w1 ⟨rfl, k1⟩
    rw [Hok.out]
    go_wp2
    go_ret2
    exact ⟨by unfold dropV; rw [Hok.out]; rfl, N, by unfold dropA; rw [if_neg (by simp [Hok.out])]; exact (HT.out.kept k1).mono (Nat.le_add_right n 1), Moves.of_kept N [] k1⟩
  · have Hok := Lib.hid hok
    have HT := Lib.hid hT
    have HL := Lib.hid hl
    clear hok hT hl
    have few := HT.out.trie.few (Tp.lev f.data.toList) i
    go_enter Tryz.func28, Tryz.ntmps28
    go_wp2_with fail
    refine (right_trie f i _ (by omega)).mono ?_
    rintro e w1 ⟨rfl, k1⟩
    rw [Hok.out]
    go_wp2_with fail
    refine (levelsof_any f _ (by omega)).mono ?_
    rintro e w2 ⟨v2, rfl, o2, k2⟩
    obtain ⟨a2, cap2, rfl⟩ : ∃ a cap, v2 = .slice a (Tp.lev f.data.toList).length cap := by
      rcases o2.2 with ⟨rfl, h0⟩ | ⟨g, cap, cur, rfl, _⟩
      · exact ⟨none, 0, by rw [h0]⟩
      · exact ⟨_, cap, rfl⟩
    have T2 := (HT.out.kept k1).kept k2
    obtain ⟨l2, hl2, hc2⟩ := T2.obj
    rw [HL.out] at hl2
    cases hl2
    have c2 := box_cell hc2
    have ct := times_any w2 n N A T2.trie [] l HL.out _ _ (OwnS.strs o2) (lev_le hf) i hi
    rw [List.nil_append] at ct
    have HT2 := Lib.hid T2
    have HK2 := Lib.hid (k1.trans k2)
    have HO2 := Lib.hid o2
    clear T2 k1 k2 o2
    go_wp2_with fail
    refine ct.mono ?_
    rintro e w3 ⟨rfl, k3⟩
    have T3 := HT2.out.kept k3
    have c3 := box_cell ((Below.block k3 _ (heap_lt hc2)).trans hc2)
    have HK3 := Lib.hid k3
    clear ct
    by_cases h0 : A (Tp.lev f.data.toList) i = 0
    · have HT3 := Lib.hid T3
      have H0 := Lib.hid h0
      clear T3 k3
      rw [h0]
      clear h0
      go_wp2
      go_ret2
      refine ⟨by unfold dropV; rw [if_pos Hok.out, if_pos H0.out]; rfl, N, ?_, (Moves.of_kept N [] HK2.out).trans (Moves.of_kept N [] HK3.out)⟩
      unfold dropA
      rw [if_neg (fun h => h.2 H0.out)]
      exact HT3.out.mono (Nat.le_add_right n 1)
    · have e0 : ((A (Tp.lev f.data.toList) i : Int) == 0) = false := by simp; omega
      obtain ⟨l4, hl4⟩ : ∃ l4, N (Tp.lev f.data.toList) = some l4 := by
        cases e : N (Tp.lev f.data.toList) with
        | some l4 => exact ⟨l4, rfl⟩
        | none => exact absurd (HT.out.trie.out _ e i) h0
      have cd := drop_any (Tp.lev f.data.toList) w3 n hn N A T3.trie [] l l4 HL.out hl4 _ ((OwnS.strs HO2.out).kept k3) i hi (by rw [List.nil_append]; omega)
      rw [List.nil_append] at cd
      have HT3 := Lib.hid T3
      have H0 := Lib.hid h0
      clear T3 k3 hl4
      go_wp2_with fail
      refine cd.mono ?_
      rintro e w4 ⟨rfl, N4, T4, M4⟩
      have HT4 := Lib.hid T4
      have HM4 := Lib.hid M4
      clear T4 M4 cd
      go_wp2
      go_ret2
      obtain ⟨S, hS1, hS2⟩ := HT.out.some_
      refine ⟨by unfold dropV; rw [if_pos Hok.out, if_neg H0.out]; rfl, N4, ?_, ((Moves.of_kept N [] HK2.out).trans (Moves.of_kept N [] HK3.out)).trans HM4.out⟩
      unfold dropA
      rw [if_pos ⟨Hok.out, H0.out⟩]
      exact HT3.out.next HT4.out HM4.out (fun p j hpj => HT.out.fine p j (bump_less (by omega) hpj)) ⟨S, by omega, fun q j hq => hS2 q j (bump_less (by omega) hq)⟩

theorem Drop_any (w : World) (n t : Nat) (hn : n ≤ 1000000) (N : Path → Option Loc) (A : Path → Int → Nat) (hT : Tri w n t N A) (f : ByteArray) (hf : f.size ≤ 1000) (i : Int) (hi : (Lit.int .i64 i).wf = true) :
    Calls Tryz.prog 28 #[.pointer (some ⟨t, 0, none⟩), .string f, .int .i64 i] w fun e w' => e = .returned (dropV A f.data.toList i) ∧ ∃ N', Tri w' (n + 9) t N' (dropA A f.data.toList i) ∧ Moves N N' [] w w' :=
  (Drop_any1 w n t hn N A hT f hf i hi).mono fun _ _ ⟨h1, N', h2, h3⟩ => ⟨h1, N', h2.mono (by omega), h3⟩

set_option maxHeartbeats 2000000 in
set_option maxRecDepth 100000 in
theorem Has_any (w : World) (n t : Nat) (N : Path → Option Loc) (A : Path → Int → Nat) (hT : Tri w n t N A) (f : ByteArray) (hf : f.size ≤ 1000) (i : Int) (hi : (Lit.int .i64 i).wf = true) :
    Calls Tryz.prog 19 #[.pointer (some ⟨t, 0, none⟩), .string f, .int .i64 i] w fun e w' => e = .returned (.int .i64 (A (Tp.lev f.data.toList) i)) ∧ Kept w w' := by
  obtain ⟨l, hl, hc⟩ := hT.obj
  have c1 := box_cell hc
  have c1d : w.drew.cell? ⟨t, 0, none⟩ = some (.pointer (some ⟨l.b, 0, none⟩)) := c1
  have htl := hT.lt
  have HT := Lib.hid hT
  have HL := Lib.hid hl
  have HKD := Lib.hid (Kept.drew (Kept.refl w))
  clear hT hl
  go_enter Tryz.func19, Tryz.ntmps19
  go_wp2_with fail
  go_region_held3 (fun w' => w'.cell? ⟨t, 0, none⟩ = some (.pointer (some ⟨l.b, 0, none⟩))) (first | exact c1d | exact c2 | exact c3)
    (first
      | (go_at_call 26; refine (levelsof_any f _ (by omega)).mono ?_; rintro e w2 ⟨v2, rfl, o2, k2⟩
         have c2 : w2.cell? ⟨t, 0, none⟩ = some (.pointer (some ⟨l.b, 0, none⟩)) := (Below.cell k2 (p := ⟨t, 0, none⟩) htl).trans c1d
         have T2 := (HT.out.kept HKD.out).kept k2
         have ct := times_any w2 n N A T2.trie [] l HL.out v2 (Tp.lev f.data.toList) (OwnS.strs o2) (lev_le hf) i hi
         rw [List.nil_append] at ct
         have ht2 := T2.lt
         have HK2 := Lib.hid k2
         clear T2 k2 o2)
      | (go_at_call 42; refine ct.mono ?_; rintro e w3 ⟨rfl, k3⟩
         have c3 : w3.cell? ⟨t, 0, none⟩ = some (.pointer (some ⟨l.b, 0, none⟩)) := (Below.cell k3 (p := ⟨t, 0, none⟩) ht2).trans c2
         have HK3 := Lib.hid k3
         clear k3 ct))
  go_wp2
  go_ret
  exact ⟨rfl, (HKD.out.trans HK2.out).trans HK3.out⟩

def leaveA (A : Path → Int → Nat) (i : Int) : Path → Int → Nat := fun q j => if j = i then 0 else A q j

set_option maxHeartbeats 2000000 in
set_option maxRecDepth 100000 in
theorem Leave_any (w : World) (n t : Nat) (hn : n ≤ 1000000) (N : Path → Option Loc) (A : Path → Int → Nat) (hT : Tri w n t N A) (i : Int) (hi : (Lit.int .i64 i).wf = true) :
    Calls Tryz.prog 8 #[.pointer (some ⟨t, 0, none⟩), .int .i64 i] w fun e w' => ∃ L : List Path, e = .returned (.int .i64 L.length) ∧ L.Nodup ∧ (∀ q, q ∈ L ↔ 0 < A q i) ∧ ∃ N', Tri w' n t N' (leaveA A i) ∧ Moves N N' [] w w' := by
  obtain ⟨l, hl, hc⟩ := hT.obj
  have c1 := box_cell hc
  have hF : Few A := by
    obtain ⟨S, h1, h2⟩ := hT.some_
    exact ⟨S, by omega, h2⟩
  have cl := leave_any 9 w n N A hT.trie hF [] l hl (by simp) i hi
  have HT := Lib.hid hT
  clear hT hF hl hc
  go_enter Tryz.func8, Tryz.ntmps8
  go_wp2_with fail
  refine cl.mono ?_
  rintro e w2 ⟨L, rfl, hL, N2, A2, T2, G2, M2⟩
  have HLm := Lib.hid hL
  have HT2 := Lib.hid T2
  have HG2 := Lib.hid G2
  have HM2 := Lib.hid M2
  clear hL T2 G2 M2 cl
  go_wp2
  go_ret
  have eA : A2 = leaveA A i := by
    funext q j
    unfold leaveA
    by_cases e : j = i
    · subst e; rw [if_pos rfl]; exact HG2.out.off q List.nil_prefix trivial
    · rw [if_neg e]; exact HG2.out.on q j (fun h => e h.2.2)
  have less : ∀ q j, 0 < leaveA A i q j → 0 < A q j := by
    intro q j h
    unfold leaveA at h
    split at h
    · omega
    · exact h
  obtain ⟨S, hS1, hS2⟩ := HT.out.some_
  have T3 := HT2.out
  rw [eA] at T3
  refine ⟨L, rfl, HLm.out.once, fun q => ?_, N2, HT.out.next T3 HM2.out (fun p j h => HT.out.fine p j (less p j h)) ⟨S, hS1, fun q j h => hS2 q j (less q j h)⟩, HM2.out⟩
  rw [HLm.out.mem]
  exact ⟨fun h => h.2.1, fun h => ⟨List.nil_prefix, h, trivial⟩⟩

set_option maxHeartbeats 2000000 in
set_option maxRecDepth 100000 in
theorem Copy_any (w : World) (n t : Nat) (hn : n ≤ 1000000) (N : Path → Option Loc) (A : Path → Int → Nat) (hT : Tri w n t N A) :
    Calls Tryz.prog 6 #[.pointer (some ⟨t, 0, none⟩)] w fun e w' => ∃ t' N', e = .returned (.pointer (some ⟨t', 0, none⟩)) ∧ Tri w' n t' N' A ∧ Kept w w' ∧ ∀ i, Of N' i ∨ i = t' → w.heap.size ≤ i := by
  obtain ⟨l, hl, hc⟩ := hT.obj
  have c1 := box_cell hc
  have cl := nclone_any 9 w n hn N A hT.trie [] l hl (by simp)
  have HT := Lib.hid hT
  clear hT hl hc
  go_enter Tryz.func6, Tryz.ntmps6
  go_wp2_with fail
  refine cl.mono ?_
  rintro e w2 ⟨M, m, rfl, hm, T2, hnew, hgd, k2⟩
  have Hm := Lib.hid hm
  have HT2 := Lib.hid T2
  have Hnew := Lib.hid hnew
  have HK2 := Lib.hid k2
  clear hm T2 hnew hgd k2 cl
  go_wp2
  go_ret
  have k3 := kept_alloc w2 (.cells #[.pointer (some ⟨m.b, 0, none⟩)] 51)
  refine ⟨w2.heap.size, M, rfl, ⟨HT2.out.kept k3, ⟨m, Hm.out, new_heap w2 _⟩, HT.out.fine, HT.out.some_⟩, HK2.out.trans k3, fun i hi => ?_⟩
  rcases hi with hi | rfl
  · exact Hnew.out i hi
  · exact HK2.out.size
end Go.Proofs.YtalebnhkidhglaaGreat
