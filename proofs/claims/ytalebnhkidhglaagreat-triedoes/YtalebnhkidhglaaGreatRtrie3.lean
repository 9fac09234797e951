/-
  A trie as its callers have it: the walks of Match, Of, All.
-/
import Derived.Test.YtalebnhkidhglaaGreatRtrie2
import Derived.Test.YtalebnhkidhglaaGreatRmatch
import Derived.Test.YtalebnhkidhglaaGreatRsort
import Derived.Test.YtalebnhkidhglaaGreatRfilt2
namespace Go.Proofs.YtalebnhkidhglaaGreat
open Go.ChangeShapes Go.WideShapes Go.ChangeAt Go.RowKit Go.Maps

theorem right_len {s : List UInt8} (h : Tp.right s = true) : (Tp.lev s).length ≤ 8 := by
  unfold Tp.right at h
  simp only [Bool.and_eq_true, decide_eq_true_eq] at h
  exact h.1
theorem pow_top {k n : Nat} (hk : k ≤ 8) (hn : n ≤ 1000) : 3 * 2 ^ k * n ≤ 768000 := by
  have h1 : 2 ^ k ≤ 2 ^ 8 := Nat.pow_le_pow_right (by omega) hk
  have h2 : 3 * 2 ^ k ≤ 768 := by omega
  exact Nat.le_trans (Nat.mul_le_mul h2 hn) (by omega)
/-- who is told for a topic -/
def Who (A : Path → Int → Nat) (s : List UInt8) (ids : List Int) : Prop := ids.Pairwise (· < ·) ∧ ∀ i, i ∈ ids ↔ Tp.right s = true ∧ ∃ q, lets q (Tp.lev s) = true ∧ 0 < A q i

set_option maxHeartbeats 2000000 in
set_option maxRecDepth 100000 in
theorem Match_any (w : World) (n t : Nat) (hn : n ≤ 1000) (N : Path → Option Loc) (A : Path → Int → Nat) (hT : Tri w n t N A) (s : ByteArray) (hs : s.size ≤ 1000) :
    Calls Tryz.prog 11 #[.pointer (some ⟨t, 0, none⟩), .string s] w fun e w' => ∃ v ids, e = .returned v ∧ OwnI w' w.heap.size v ids ∧ Who A s.data.toList ids ∧ Kept w w' ∧ ids.length ≤ 1000000 := by
  obtain ⟨l, hl, hc⟩ := hT.obj
  cases hr : Tp.right s.data.toList
  · have HR := Lib.hid hr
    clear hr hT
    go_enter Tryz.func11, Tryz.ntmps11
    go_wp2_with fail
    refine (right_any s _ (by omega)).mono ?_
    rintro e w1 ⟨rfl, k1⟩
    rw [HR.out]
    go_wp2
    go_ret
    refine ⟨_, [], rfl, OwnI.nil _ _, ⟨List.Pairwise.nil, fun i => ?_⟩, k1, by simp⟩
    rw [HR.out]
    simp
  · have HR := Lib.hid hr
    have HT := Lib.hid hT
    have HL := Lib.hid hl
    clear hr hT hl
    have hlen := right_len HR.out
    go_enter Tryz.func11, Tryz.ntmps11
    go_wp2_with fail
    refine (right_any s _ (by omega)).mono ?_
    rintro e w1 ⟨rfl, k1⟩
    rw [HR.out]
    have T1 := HT.out.kept k1
    have c1 := box_cell ((Below.block k1 _ (heap_lt hc)).trans hc)
    have c1d : w1.drew.cell? ⟨t, 0, none⟩ = some (.pointer (some ⟨l.b, 0, none⟩)) := c1
    have htl : t < w1.heap.size := T1.lt
    have HK1 := Lib.hid k1
    have HT1 := Lib.hid T1
    have HKD := Lib.hid (Kept.drew (Kept.refl w1))
    clear k1 T1
    go_wp2_with fail
    go_region_held3 (fun w' => w'.cell? ⟨t, 0, none⟩ = some (.pointer (some ⟨l.b, 0, none⟩))) (first | exact c1d | exact c2 | exact c3)
      (first
        | (go_at_call 26; refine (levelsof_any s _ (by omega)).mono ?_; rintro e w2 ⟨v2, rfl, o2, k2⟩
           have c2 : w2.cell? ⟨t, 0, none⟩ = some (.pointer (some ⟨l.b, 0, none⟩)) := (Below.cell k2 (p := ⟨t, 0, none⟩) htl).trans c1d
           have T2 := (HT1.out.kept HKD.out).kept k2
           have cm := nmatch_any (Tp.lev s.data.toList) w2 n hn N A T2.trie [] l HL.out v2 w2.heap.size (Nat.le_refl _) (fun i hi => T2.trie.lt hi) (fun w' k => (OwnS.strs o2).kept k) (lev_le hs) (.slice none 0 0) [] (OwnI.nil _ _) (by have := pow_top hlen hn; simp; omega)
           have ht2 := T2.lt
           have HK2 := Lib.hid k2
           clear T2 k2 o2)
        | (go_at_call 33; refine cm.mono ?_; rintro e w3 ⟨v3, K, rfl, hF, hKl, o3, k3⟩
           obtain ⟨a3, cap3, rfl⟩ := o3.form
           have c3 : w3.cell? ⟨t, 0, none⟩ = some (.pointer (some ⟨l.b, 0, none⟩)) := (Below.cell (k3 : Kept w2 w3) (p := ⟨t, 0, none⟩) ht2).trans c2
           have HF := Lib.hid hF
           have HO3 := Lib.hid o3
           have HK3 : Hid (Kept w2 w3) := k3
           clear hF o3 k3 cm))
    have hKl2 : K.length ≤ 768000 := by have := pow_top hlen hn; omega
    have hb3 : w2.heap.size ≤ w3.heap.size := HK3.out.size
    have cs := sortI_any w2.heap.size w3 hb3 _ K HO3.out (by omega)
    try simp only [List.nil_append]
    go_wp2_with fail
    refine cs.mono ?_
    rintro e w4 ⟨rfl, o4, k4⟩
    have hl4 : (K.mergeSort fun x y => decide (x ≤ y)).length = K.length := by simp
    have cc := compactI_any w2.heap.size w4 (Nat.le_trans hb3 k4.size) _ _ o4 (by rw [hl4]; omega)
    have HK4 := Lib.hid k4
    clear o4 k4 cs
    go_wp2_with fail
    refine cc.mono ?_
    rintro e w5 ⟨v5, rfl, o5, k5⟩
    have HO5 := Lib.hid o5
    have HK5 := Lib.hid k5
    clear o5 k5 cc
    go_wp2
    go_ret
    have kk : Kept w2 w5 := Below.trans HK3.out (HK4.out.trans HK5.out)
    refine ⟨_, once K, rfl, World.ownsRow.mono HO5.out (Nat.le_trans HK1.out.size (HKD.out.trans HK2.out).size), ⟨(once_spec K).1, fun i => ?_⟩, (HK1.out.trans (HKD.out.trans HK2.out)).trans kk, (by have h1 := Lib.compact_length_le (K.mergeSort fun x y => decide (x ≤ y)); rw [hl4] at h1; unfold once; omega)⟩
    rw [(once_spec K).2, HF.out i, HR.out]
    simp

/-- rows of filters in order -/
def Ordered (fs : List (List UInt8)) : Prop := fs.Pairwise fun a b => Tp.less a b = true
theorem Listed.texts {N : Path → Option Loc} {A : Path → Int → Nat} {w : World} {n t : Nat} (hT : Tri w n t N A) {want : Path → Bool} {L : List Path} (h : Listed N want [] (fun _ => True) L) (hw : ∀ q, want q = true → ∃ i, 0 < A q i) :
    Ordered (L.map Tp.join) ∧ ∀ f, f ∈ L.map Tp.join ↔ want (Tp.lev f) = true := by
  have hf : ∀ q ∈ L, Tp.lev (Tp.join q) = q := fun q hq => by
    obtain ⟨i, hi⟩ := hw q ((h.mem q).1 hq).2.2.1
    exact (hT.fine q i hi).2.1
  constructor
  · unfold Ordered
    rw [List.pairwise_map]
    refine pw_mono h.sorted (fun a b ha hb hab => ?_)
    unfold Tp.less
    rw [hf a ha, hf b hb]
    exact hab
  · intro f
    rw [List.mem_map]
    constructor
    · rintro ⟨q, hq, rfl⟩
      rw [hf q hq]
      exact ((h.mem q).1 hq).2.2.1
    · intro hwf
      refine ⟨Tp.lev f, (h.mem _).2 ⟨List.nil_prefix, ?_, hwf, trivial⟩, Tp.join_lev f⟩
      obtain ⟨i, hi⟩ := hw _ hwf
      cases e : N (Tp.lev f) with
      | some l => rfl
      | none => rw [hT.trie.out _ e i] at hi; omega

noncomputable def wantAll (A : Path → Int → Nat) (q : Path) : Bool := @decide (∃ i, 0 < A q i) (Classical.propDecidable _)
theorem wantAll_iff (A : Path → Int → Nat) (q : Path) : wantAll A q = true ↔ ∃ i, 0 < A q i := by unfold wantAll; exact @decide_eq_true_iff _ (Classical.propDecidable _)

set_option maxHeartbeats 1000000 in
set_option maxRecDepth 100000 in
theorem all1_any (W : World) (n : Nat) (l : Loc) (kid : List UInt8 → Option Nat) (A : Path → Int → Nat) (q : Path) (h : NodeAt W n l kid (A q)) :
    Calls Tryz.prog 37 #[.pointer (some ⟨l.b, 0, none⟩)] W fun e w' => e = .returned (.bool (wantAll A q)) ∧ Kept W w' := by
  have c1 := h.c1
  obtain ⟨m, hm, hr, hz⟩ := h.asks.len 3
  have HZ : Hid (wantAll A q = decide (0 < m)) := by
    show _ = _
    by_cases e : m = 0
    · subst e
      have := hz.1 rfl
      have h2 : ¬ wantAll A q = true := fun h => by obtain ⟨i, hi⟩ := (wantAll_iff A q).1 h; rw [this i] at hi; omega
      simpa using h2
    · have : ∃ i, 0 < A q i := by
        apply Classical.byContradiction
        intro hn
        exact e (hz.2 fun x => Nat.eq_zero_of_not_pos fun hx => hn ⟨x, hx⟩)
      rw [(wantAll_iff A q).2 this]
      simp; omega
  clear hz
  by_cases e : m = 0
  · subst e
    go_enter Tryz.func37, Tryz.ntmps37
    go_wp2
    go_ret
    exact ⟨by rw [HZ.out]; rfl, Kept.refl _⟩
  · have e1 : decide ((0 : Int) < (m : Int)) = true := by simp; omega
    go_enter Tryz.func37, Tryz.ntmps37
    go_wp2
    go_ret
    refine ⟨?_, Kept.refl _⟩
    rw [HZ.out]
    refine Eq.trans (b := Ending.returned (.bool true)) ?_ (by simp; omega)
    simp
    try omega

theorem allAsker (n : Nat) (N : Path → Option Loc) (A : Path → Int → Nat) : Asker n N A 37 #[] (wantAll A) (fun _ => True) :=
  ⟨enters_of Tryz.func37 (by kernel_rfl) rfl, fun W q l hT _ hq => all1_any W n l _ A q (hT.node q l hq), fun _ _ _ _ => trivial, fun _ _ _ _ _ _ _ _ => trivial⟩

set_option maxHeartbeats 2000000 in
set_option maxRecDepth 100000 in
theorem All_any (w : World) (n t : Nat) (hn : n ≤ 1000000) (N : Path → Option Loc) (A : Path → Int → Nat) (hT : Tri w n t N A) :
    Calls Tryz.prog 12 #[.pointer (some ⟨t, 0, none⟩)] w fun e w' => ∃ v fs, e = .returned v ∧ OwnS w' w.heap.size v fs ∧ Ordered fs ∧ (∀ f, f ∈ fs ↔ ∃ i, 0 < A (Tp.lev f) i) ∧ Kept w w' := by
  obtain ⟨l, hl, hc⟩ := hT.obj
  have c1 := box_cell hc
  obtain ⟨S, hS1, hS2⟩ := hT.some_
  have cf := filters_any n hn N A _ _ _ _ (allAsker n N A) S (by omega) (fun q hq _ => by obtain ⟨i, hi⟩ := (wantAll_iff A q).1 hq; exact hS2 q i hi) 9 w hT.trie trivial [] l hl (by simp) ⟨#[]⟩ rfl [] List.nodup_nil (fun q hq => by cases hq) (fun q hq => by cases hq) (.slice none 0 0) (OwnS.nil _ _)
  have HT := Lib.hid hT
  clear hT hl hc
  go_enter Tryz.func12, Tryz.ntmps12
  go_wp2_with fail
  refine cf.mono ?_
  rintro e w2 ⟨v2, L, rfl, hL, o2, b2, off2⟩
  have k2 : Kept w w2 := b2.kept (fun i _ e => by cases e)
  have o3 : OwnS w2 w.heap.size v2 (L.map Tp.join) := by
    rw [List.nil_append] at o2
    refine ⟨o2.1, ?_⟩
    rcases o2.2 with h | ⟨g, cap, cur, rfl, _, rest⟩
    · exact .inl h
    · refine .inr ⟨g, cap, cur, rfl, ?_, rest⟩
      rcases off2 with h | h
      · cases h
      · exact h g rfl
  have HL := Lib.hid hL
  have HO := Lib.hid o3
  have HK := Lib.hid k2
  clear hL o2 o3 b2 off2 k2 cf
  go_wp2
  go_ret
  obtain ⟨h1, h2⟩ := HL.out.texts HT.out (fun q hq => (wantAll_iff A q).1 hq)
  exact ⟨_, _, rfl, HO.out, h1, fun f => by rw [h2, wantAll_iff], HK.out⟩

/-- who is asked for lies in its box -/
def IdAt (b : Nat) (i : Int) (W : World) : Prop := W.heap[b]? = some (.cells #[.int .i64 i] 3 (0, 0))

set_option maxHeartbeats 1000000 in
set_option maxRecDepth 100000 in
theorem of1_any (W : World) (n : Nat) (l : Loc) (kid : List UInt8 → Option Nat) (A : Path → Int → Nat) (q : Path) (h : NodeAt W n l kid (A q)) (b : Nat) (i : Int) (hi : (Lit.int .i64 i).wf = true) (hb : IdAt b i W) :
    Calls Tryz.prog 41 #[.pointer (some ⟨l.b, 0, none⟩), .pointer (some ⟨b, 0, none⟩)] W fun e w' => e = .returned (.bool (decide (0 < A q i))) ∧ Kept W w' := by
  have c1 := h.c1
  have cb := box_cell hb
  have hlk := (h.but (S := fun _ => False) (Kept.but (Kept.drew (Kept.refl W))) id id id).asks.look hi
  have e1 : decide ((0 : Int) < (A q i : Int)) = decide (0 < A q i) := by simp
  have HE := Lib.hid e1
  clear e1 hb h
  go_enter Tryz.func41, Tryz.ntmps41
  go_wp2_with fail
  go_still (by kernel_rfl)
  change Exit.then _ _ _ _ W.drew
  go_wp2
  go_ret
  exact ⟨by rw [← HE.out]; rfl, Kept.drew (Kept.refl W)⟩

theorem ofAsker (n : Nat) (N : Path → Option Loc) (A : Path → Int → Nat) (b : Nat) (i : Int) (hi : (Lit.int .i64 i).wf = true) : Asker n N A 41 #[.pointer (some ⟨b, 0, none⟩)] (fun q => decide (0 < A q i)) (IdAt b i) :=
  ⟨enters_of Tryz.func41 (by kernel_rfl) rfl, fun W q l hT hI hq => of1_any W n l _ A q (hT.node q l hq) b i hi hI, fun W W' h k => (Below.block k _ (heap_lt h)).trans h, fun W W' base v xs h ho k => k.at h (fun e => by
    rcases ho.2 with ⟨rfl, _⟩ | ⟨g, cap, cur, rfl, _, hg, _⟩
    · cases e
    · cases e
      unfold IdAt at h
      rw [h] at hg
      cases hg)⟩

set_option maxHeartbeats 2000000 in
set_option maxRecDepth 100000 in
theorem Of_any (w : World) (n t : Nat) (hn : n ≤ 1000000) (N : Path → Option Loc) (A : Path → Int → Nat) (hT : Tri w n t N A) (i : Int) (hi : (Lit.int .i64 i).wf = true) :
    Calls Tryz.prog 17 #[.pointer (some ⟨t, 0, none⟩), .int .i64 i] w fun e w' => ∃ v fs, e = .returned v ∧ OwnS w' w.heap.size v fs ∧ Ordered fs ∧ (∀ f, f ∈ fs ↔ 0 < A (Tp.lev f) i) ∧ Kept w w' := by
  obtain ⟨l, hl, hc⟩ := hT.obj
  have ka := kept_alloc w (.cells #[.int .i64 i] 3)
  have T1 := hT.kept ka
  have c1 := box_cell ((Below.block ka _ (heap_lt hc)).trans hc)
  obtain ⟨S, hS1, hS2⟩ := hT.some_
  have cf := filters_any n hn N A _ _ _ _ (ofAsker n N A w.heap.size i hi) S (by omega) (fun q hq _ => hS2 q i (of_decide_eq_true hq)) 9 _ T1.trie (new_heap w _) [] l hl (by simp) ⟨#[]⟩ rfl [] List.nodup_nil (fun q hq => by cases hq) (fun q hq => by cases hq) (.slice none 0 0) (OwnS.nil _ _)
  have HT := Lib.hid hT
  have HKA := Lib.hid ka
  clear hT hl hc T1 ka
  go_enter Tryz.func17, Tryz.ntmps17
  go_wp2_with fail
  refine cf.mono ?_
  rintro e w2 ⟨v2, L, rfl, hL, o2, b2, off2⟩
  have k2 : Kept w w2 := HKA.out.trans (b2.kept (fun i _ e => by cases e))
  have o3 : OwnS w2 w.heap.size v2 (L.map Tp.join) := by
    rw [List.nil_append] at o2
    refine ⟨o2.1, ?_⟩
    rcases o2.2 with h | ⟨g, cap, cur, rfl, _, rest⟩
    · exact .inl h
    · refine .inr ⟨g, cap, cur, rfl, ?_, rest⟩
      rcases off2 with h | h
      · cases h
      · have := h g rfl
        have := HKA.out.size
        omega
  have HL := Lib.hid hL
  have HO := Lib.hid o3
  have HK := Lib.hid k2
  clear hL o2 o3 b2 off2 k2 cf
  go_wp2
  go_ret
  obtain ⟨h1, h2⟩ := HL.out.texts HT.out (fun q hq => ⟨i, of_decide_eq_true hq⟩)
  exact ⟨_, _, rfl, HO.out, h1, fun f => by rw [h2]; simp, HK.out⟩
end Go.Proofs.YtalebnhkidhglaaGreat
