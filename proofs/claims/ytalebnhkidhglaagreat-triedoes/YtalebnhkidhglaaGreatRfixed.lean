/-
  The calls of layer 4 whose answers the document fixes: the walk of rivuletlaw04.fixed.
-/
import Derived.Test.YtalebnhkidhglaaGreatRlaw
namespace Go.Proofs.YtalebnhkidhglaaGreat
open Go.ChangeShapes Go.WideShapes Go.ChangeAt Go.RowKit Go.Maps

theorem add_fix {w0 w : World} (k : Kept w0 w) {n t : Nat} {N : Path → Option Loc} {l l' : List (Path × Int)} (h : Tr w0 w n t N (cnt l)) (hn : n ≤ 1000) (f : ByteArray) (hf : f.size ≤ 1000) (i : Int) (hi : (Lit.int .i64 i).wf = true) (V : Value) (hV : addV (cnt l) f.data.toList i = V) (hl : addA (cnt l) f.data.toList i = cnt l') :
    Calls Tryz.prog 7 #[.pointer (some ⟨t, 0, none⟩), .string f, .int .i64 i] w fun e w' => e = .returned V ∧ ∃ N', Tr w0 w' (n + 9) t N' (cnt l') ∧ Kept w0 w' ∧ Moves N N' [] w w' := by
  have := add_from k h (by omega) f hf i hi
  rw [hV, hl] at this
  exact this
theorem drop_fix {w0 w : World} (k : Kept w0 w) {n t : Nat} {N : Path → Option Loc} {l l' : List (Path × Int)} (h : Tr w0 w n t N (cnt l)) (hn : n ≤ 1000) (f : ByteArray) (hf : f.size ≤ 1000) (i : Int) (hi : (Lit.int .i64 i).wf = true) (V : Value) (hV : dropV (cnt l) f.data.toList i = V) (hl : dropA (cnt l) f.data.toList i = cnt l') :
    Calls Tryz.prog 28 #[.pointer (some ⟨t, 0, none⟩), .string f, .int .i64 i] w fun e w' => e = .returned V ∧ ∃ N', Tr w0 w' (n + 9) t N' (cnt l') ∧ Kept w0 w' ∧ Moves N N' [] w w' := by
  have := drop_from k h (by omega) f hf i hi
  rw [hV, hl] at this
  exact this
theorem match_from {w0 w : World} (k : Kept w0 w) {n t : Nat} {N : Path → Option Loc} {A : Path → Int → Nat} (h : Tr w0 w n t N A) (hn : n ≤ 1000) (s : ByteArray) (hs : s.size ≤ 1000) (ids : List Int) (hw : Who A s.data.toList ids) :
    Calls Tryz.prog 11 #[.pointer (some ⟨t, 0, none⟩), .string s] w fun e w' => ∃ a cap, e = .returned (.slice a ids.length cap) ∧ OwnI w' w.heap.size (.slice a ids.length cap) ids ∧ Kept w0 w' ∧ Kept w w' := by
  refine (Match_any w n t hn N A h.tri s hs).mono ?_
  rintro e w' ⟨v, ids', rfl, h1, h2, h3, _⟩
  have : ids' = ids := ints_ext h2.1 hw.1 (fun x => by rw [h2.2, hw.2])
  subst this
  obtain ⟨a, cap, rfl⟩ := h1.form
  exact ⟨a, cap, rfl, h1, k.trans h3, h3⟩
theorem all_from {w0 w : World} (k : Kept w0 w) {n t : Nat} {N : Path → Option Loc} {A : Path → Int → Nat} (h : Tr w0 w n t N A) (hn : n ≤ 1000000) (fs : List (List UInt8)) (ho : Ordered fs) (hf : ∀ f, f ∈ fs ↔ ∃ i, 0 < A (Tp.lev f) i) :
    Calls Tryz.prog 12 #[.pointer (some ⟨t, 0, none⟩)] w fun e w' => ∃ a cap, e = .returned (.slice a fs.length cap) ∧ OwnS w' w.heap.size (.slice a fs.length cap) fs ∧ Kept w0 w' ∧ Kept w w' := by
  refine (All_any w n t hn N A h.tri).mono ?_
  rintro e w' ⟨v, fs', rfl, h1, h2, h3, h4⟩
  have : fs' = fs := texts_ext h2 ho (fun x => by rw [h3, hf])
  subst this
  obtain ⟨a, cap, rfl⟩ := h1.form
  exact ⟨a, cap, rfl, h1, k.trans h4, h4⟩
theorem of_from {w0 w : World} (k : Kept w0 w) {n t : Nat} {N : Path → Option Loc} {A : Path → Int → Nat} (h : Tr w0 w n t N A) (hn : n ≤ 1000000) (i : Int) (hi : (Lit.int .i64 i).wf = true) (fs : List (List UInt8)) (ho : Ordered fs) (hf : ∀ f, f ∈ fs ↔ 0 < A (Tp.lev f) i) :
    Calls Tryz.prog 17 #[.pointer (some ⟨t, 0, none⟩), .int .i64 i] w fun e w' => ∃ a cap, e = .returned (.slice a fs.length cap) ∧ OwnS w' w.heap.size (.slice a fs.length cap) fs ∧ Kept w0 w' ∧ Kept w w' := by
  refine (Of_any w n t hn N A h.tri i hi).mono ?_
  rintro e w' ⟨v, fs', rfl, h1, h2, h3, h4⟩
  have : fs' = fs := texts_ext h2 ho (fun x => by rw [h3, hf])
  subst this
  obtain ⟨a, cap, rfl⟩ := h1.form
  exact ⟨a, cap, rfl, h1, k.trans h4, h4⟩
theorem has_from {w0 w : World} (k : Kept w0 w) {n t : Nat} {N : Path → Option Loc} {A : Path → Int → Nat} (h : Tr w0 w n t N A) (f : ByteArray) (hf : f.size ≤ 1000) (i : Int) (hi : (Lit.int .i64 i).wf = true) (c : Nat) (hc : A (Tp.lev f.data.toList) i = c) :
    Calls Tryz.prog 19 #[.pointer (some ⟨t, 0, none⟩), .string f, .int .i64 i] w fun e w' => e = .returned (.int .i64 c) ∧ Kept w0 w' ∧ Kept w w' := by
  subst hc
  exact (Has_any w n t N A h.tri f hf i hi).mono fun _ _ ⟨h1, h2⟩ => ⟨h1, k.trans h2, h2⟩

theorem lit_strs (w : World) (p : ByteArray) : Strs (w.alloc (.cells #[.string p] 9)) (.slice (some ⟨w.heap.size, 0, none⟩) 1 1) [p.data.toList] :=
  ⟨_, 1, rfl, Nat.le_refl _, by unfold maxLen; omega, .inr ⟨w.heap.size, 0, rfl, by simp, fun i x hx => by
    match i, hx with
    | 0, hx => simp at hx; subst hx; simp only [World.cell?, new_heap]; rfl⟩⟩
theorem lit_nums1 (w : World) (a : Int) : Nums (w.alloc (.cells #[.int .i64 a] 3)) (.slice (some ⟨w.heap.size, 0, none⟩) 1 1) [a] :=
  ⟨_, 1, rfl, Nat.le_refl _, by unfold maxLen; omega, .inr ⟨w.heap.size, 0, rfl, by simp, fun i x hx => by
    match i, hx with
    | 0, hx => simp at hx; subst hx; simp only [World.cell?, new_heap]; rfl⟩⟩
theorem lit_nums2 (w : World) (a b : Int) : Nums (w.alloc (.cells #[.int .i64 a, .int .i64 b] 3)) (.slice (some ⟨w.heap.size, 0, none⟩) 2 2) [a, b] :=
  ⟨_, 2, rfl, Nat.le_refl _, by unfold maxLen; omega, .inr ⟨w.heap.size, 0, rfl, by simp, fun i x hx => by
    match i, hx with
    | 0, hx => simp at hx; subst hx; simp only [World.cell?, new_heap]; rfl
    | 1, hx => simp at hx; subst hx; simp only [World.cell?, new_heap]; rfl⟩⟩
theorem Nums.kept {w w' : World} {v : Value} {xs : List Int} (h : Nums w v xs) (k : Kept w w') : Nums w' v xs := by
  obtain ⟨a, cap, rfl, h1, h2, h3⟩ := h
  refine ⟨a, cap, rfl, h1, h2, ?_⟩
  rcases h3 with h3 | ⟨g, off, rfl, hg, hc⟩
  · exact .inl h3
  · exact .inr ⟨g, off, rfl, Nat.lt_of_lt_of_le hg k.size, fun i x hx => (Below.cell k (p := ⟨g, off + i, none⟩) hg).trans (hc i x hx)⟩

abbrev p1 : Path := [[97], [43]]
abbrev p2 : Path := [[35]]
theorem lev_p {f : List UInt8} {p : Path} (h : Tp.lev f = p) : f = Tp.join p := by rw [← h, Tp.join_lev]
theorem one_of {L : List Path} {a : Path} (h1 : L.Nodup) (h2 : ∀ q, q ∈ L ↔ q = a) : L.length = 1 := by
  have a1 := nodup_le h1 (S := [a]) (fun x hx => by rw [(h2 x).1 hx]; simp)
  have a2 := nodup_le (l := [a]) (S := L) (by simp) (fun x hx => by simp at hx; subst hx; exact (h2 x).2 rfl)
  simp at a1 a2
  omega
theorem who1 : Who (cnt [(p1, 1), (p2, 2), (p1, 1)]) [97, 47, 98] [1, 2] := by
  refine ⟨by simp, fun i => ?_⟩
  constructor
  · intro h
    simp at h
    rcases h with rfl | rfl
    · exact ⟨by decide, p1, by decide, by decide⟩
    · exact ⟨by decide, p2, by decide, by decide⟩
  · rintro ⟨_, q, _, hq⟩
    rw [cnt_pos] at hq
    simp at hq
    rcases hq with ⟨_, rfl⟩ | ⟨_, rfl⟩ | ⟨_, rfl⟩ <;> simp
theorem who2 : Who (cnt [(p1, 1), (p2, 2), (p1, 1)]) [97] [2] := by
  refine ⟨by simp, fun i => ?_⟩
  constructor
  · intro h
    simp at h
    subst h
    exact ⟨by decide, p2, by decide, by decide⟩
  · rintro ⟨_, q, hl, hq⟩
    rw [cnt_pos] at hq
    simp at hq
    rcases hq with ⟨rfl, _⟩ | ⟨_, rfl⟩ | ⟨rfl, _⟩
    · exact absurd hl (by decide)
    · simp
    · exact absurd hl (by decide)
theorem who3 : Who (cnt [(p2, 2)]) [97] [2] := by
  refine ⟨by simp, fun i => ?_⟩
  constructor
  · intro h
    simp at h
    subst h
    exact ⟨by decide, p2, by decide, by decide⟩
  · rintro ⟨_, q, hl, hq⟩
    rw [cnt_pos] at hq
    simp at hq
    rw [hq.2]; simp
theorem who4 (A : Path → Int → Nat) : Who A [43] [] := ⟨List.Pairwise.nil, fun i => ⟨fun h => (by cases h), fun h => absurd h.1 (by decide)⟩⟩
theorem all1 (f : List UInt8) : f ∈ [[35]] ↔ ∃ i, 0 < cnt [(p2, 2)] (Tp.lev f) i := by
  constructor
  · intro h
    simp at h
    subst h
    exact ⟨2, by decide⟩
  · rintro ⟨i, hi⟩
    rw [cnt_pos] at hi
    simp at hi
    rw [lev_p hi.1]; simp [Tp.join]
theorem of1 (f : List UInt8) : f ∈ [[97, 47, 43]] ↔ 0 < cnt [(p1, 1), (p2, 2), (p1, 1)] (Tp.lev f) 1 := by
  constructor
  · intro h
    simp at h
    subst h
    decide
  · intro hi
    rw [cnt_pos] at hi
    simp at hi
    rw [lev_p hi]; simp [Tp.join]

set_option maxHeartbeats 4000000 in
set_option maxRecDepth 100000 in
theorem fixed4_any (w : World) : Calls Tryz.prog 21 #[] w fun e w' => e = .returned (.bool true) ∧ Kept w w' := by
  go_enter Tryz.func21, Tryz.ntmps21
  go_wp2_with fail
  refine (new_from (Kept.refl w)).mono ?_
  rintro e w1 ⟨t, N1, rfl, T1, k1, _, _⟩
  have h1 : Hid (Tr w w1 0 t N1 (cnt [])) := T1
  clear T1
  go_wp2_with fail
  refine (add_fix k1 h1.out (by omega) ⟨#[97, 47, 43]⟩ (by decide) 1 (by decide) (.tuple #[.int .i64 1, .int .i64 0]) (by kernel_rfl) (l' := [(p1, 1)]) (add_cnt (by decide))).mono ?_
  rintro e w2 ⟨rfl, N2, T2, k2, _⟩
  have h2 := Lib.hid T2
  clear T2 h1 k1
  go_wp2_with fail
  refine (add_fix k2 h2.out (by omega) ⟨#[35]⟩ (by decide) 2 (by decide) (.tuple #[.int .i64 1, .int .i64 0]) (by kernel_rfl) (l' := [(p2, 2), (p1, 1)]) (add_cnt (by decide))).mono ?_
  rintro e w3 ⟨rfl, N3, T3, k3, _⟩
  have h3 := Lib.hid T3
  clear T3 h2 k2
  go_wp2_with fail
  refine (add_fix k3 h3.out (by omega) ⟨#[97, 47, 43]⟩ (by decide) 1 (by decide) (.tuple #[.int .i64 2, .int .i64 0]) (by kernel_rfl) (l' := [(p1, 1), (p2, 2), (p1, 1)]) (add_cnt (by decide))).mono ?_
  rintro e w4 ⟨rfl, N4, T4, k4, _⟩
  have h4 := Lib.hid T4
  clear T4 h3 k3
  go_wp2_with fail
  refine (add_fix k4 h4.out (by omega) ⟨#[97, 47, 35, 47, 98]⟩ (by decide) 1 (by decide) (.tuple #[.int .i64 0, .int .i64 1]) (by kernel_rfl) (l' := [(p1, 1), (p2, 2), (p1, 1)]) (add_no (by decide))).mono ?_
  rintro e w5 ⟨rfl, N5, T5, k5, _⟩
  have h5 := Lib.hid T5
  clear T5 h4 k4
  go_wp2_with fail
  refine (drop_fix k5 h5.out (by omega) ⟨#[97]⟩ (by decide) 1 (by decide) (.tuple #[.int .i64 0, .int .i64 8]) (by kernel_rfl) (l' := [(p1, 1), (p2, 2), (p1, 1)]) (drop_cnt (by decide))).mono ?_
  rintro e w6 ⟨rfl, N6, T6, k6, _⟩
  have h6 := Lib.hid T6
  clear T6 h5 k5
  go_wp2_with fail
  refine (match_from k6 h6.out (by omega) ⟨#[97, 47, 98]⟩ (by decide) [1, 2] who1).mono ?_
  rintro e w7 ⟨a7, cap7, rfl, o7, k7, kk7⟩
  have h7 := Lib.hid (h6.out.kept kk7)
  have O7 := Lib.hid o7
  clear o7 kk7 h6 k6
  go_wp2_with fail
  refine (match_from k7 h7.out (by omega) ⟨#[97]⟩ (by decide) [2] who2).mono ?_
  rintro e w8 ⟨a8, cap8, rfl, o8, k8, kk8⟩
  have h8 := Lib.hid (h7.out.kept kk8)
  have O78 := Lib.hid (O7.out.kept kk8)
  have O8 := Lib.hid o8
  clear o8 kk8 h7 k7 O7
  go_wp2_with fail
  refine (copy_from k8 h8.out (by omega)).mono ?_
  rintro e w9 ⟨t', M9, rfl, C9, k9, kk9, ap9⟩
  have h9 := Lib.hid (h8.out.kept kk9)
  have c9 := Lib.hid C9
  have O79 := Lib.hid (O78.out.kept kk9)
  have O89 := Lib.hid (O8.out.kept kk9)
  have P9 := Lib.hid ap9
  clear C9 kk9 ap9 h8 k8 O78 O8
  go_wp2_with fail
  refine (drop_fix k9 h9.out (by omega) ⟨#[97, 47, 43]⟩ (by decide) 1 (by decide) (.tuple #[.int .i64 1, .int .i64 0]) (by kernel_rfl) (l' := [(p2, 2), (p1, 1)]) (drop_cnt (by decide))).mono ?_
  rintro e w10 ⟨rfl, N10, T10, k10, M10⟩
  have h10 := Lib.hid T10
  have c10 : Hid (Tr w w10 _ t' M9 _) := ⟨c9.out.tri.other h9.out.tri P9.out M10, c9.out.own⟩
  have O710 := Lib.hid (O79.out.moves h9.out.tri.trie M10)
  have O810 := Lib.hid (O89.out.moves h9.out.tri.trie M10)
  have P10 := Lib.hid (P9.out.moves M10 c9.out.tri.trie)
  clear T10 M10 h9 k9 c9 O79 O89 P9
  go_wp2_with fail
  refine (drop_fix k10 h10.out (by omega) ⟨#[97, 47, 43]⟩ (by decide) 1 (by decide) (.tuple #[.int .i64 0, .int .i64 0]) (by kernel_rfl) (l' := [(p2, 2)]) (drop_cnt (by decide))).mono ?_
  rintro e w11 ⟨rfl, N11, T11, k11, M11⟩
  have h11 := Lib.hid T11
  have c11 : Hid (Tr w w11 _ t' M9 _) := ⟨c10.out.tri.other h10.out.tri P10.out M11, c10.out.own⟩
  have O711 := Lib.hid (O710.out.moves h10.out.tri.trie M11)
  have O811 := Lib.hid (O810.out.moves h10.out.tri.trie M11)
  have P11 := Lib.hid (P10.out.moves M11 c10.out.tri.trie)
  clear T11 M11 h10 k10 c10 O710 O810 P10
  go_wp2_with fail
  have ka := kept_alloc w11 (.cells #[.int .i64 1, .int .i64 2] 3)
  refine (ints_any _ _ [1, 2] [1, 2] _ (O711.out.nums.kept ka) (lit_nums2 w11 1 2)).mono ?_
  rintro e w12 ⟨rfl, kk12⟩
  have K12 := Lib.hid (ka.trans kk12)
  clear ka kk12
  go_wp2_with fail
  have kb := kept_alloc w12 (.cells #[.int .i64 2] 3)
  refine (ints_any _ _ [2] [2] _ (O811.out.nums.kept (K12.out.trans kb)) (lit_nums1 w12 2)).mono ?_
  rintro e w13 ⟨rfl, kk13⟩
  have K13 := Lib.hid ((K12.out.trans kb).trans kk13)
  have k13 := k11.trans K13.out
  clear kb kk13
  go_wp2_with fail
  refine (all_from k13 (h11.out.kept K13.out) (by omega) [[35]] (by simp [Ordered]) all1).mono ?_
  rintro e w14 ⟨a14, cap14, rfl, o14, k14, kk14⟩
  have K14 := Lib.hid (K13.out.trans kk14)
  have O14 := Lib.hid o14
  clear o14 kk14
  go_wp2_with fail
  have kc := kept_alloc w14 (.cells #[.string ⟨#[35]⟩] 9)
  refine (same_any _ _ [[35]] [[35]] _ ((OwnS.strs O14.out).kept kc) (lit_strs w14 ⟨#[35]⟩)).mono ?_
  rintro e w15 ⟨rfl, kk15⟩
  have K15 := Lib.hid ((K14.out.trans kc).trans kk15)
  have k15 := k11.trans K15.out
  clear kc kk15
  go_wp2_with fail
  refine (has_from k15 (c11.out.kept K15.out) ⟨#[97, 47, 43]⟩ (by decide) 1 (by decide) 2 (by decide)).mono ?_
  rintro e w16 ⟨rfl, k16, kk16⟩
  have K16 := Lib.hid (K15.out.trans kk16)
  clear kk16
  go_wp2_with fail
  refine (of_from k16 (c11.out.kept K16.out) (by omega) 1 (by decide) [[97, 47, 43]] (by simp [Ordered]) of1).mono ?_
  rintro e w17 ⟨a17, cap17, rfl, o17, k17, kk17⟩
  have K17 := Lib.hid (K16.out.trans kk17)
  have O17 := Lib.hid o17
  clear o17 kk17
  go_wp2_with fail
  have kd := kept_alloc w17 (.cells #[.string ⟨#[97, 47, 43]⟩] 9)
  refine (same_any _ _ [[97, 47, 43]] [[97, 47, 43]] _ ((OwnS.strs O17.out).kept kd) (lit_strs w17 ⟨#[97, 47, 43]⟩)).mono ?_
  rintro e w18 ⟨rfl, kk18⟩
  have K18 := Lib.hid ((K17.out.trans kd).trans kk18)
  have k18 := k11.trans K18.out
  clear kd kk18
  go_wp2_with fail
  refine (leave_from k18 (c11.out.kept K18.out) (by omega) 1 (by decide)).mono ?_
  rintro e w19 ⟨L, rfl, hL1, hL2, M19, C19, k19, V19⟩
  have hL3 : L.length = 1 := one_of hL1 (a := p1) (fun q => by rw [hL2, cnt_pos]; simp)
  rw [leave_cnt] at C19
  have C19' : Tr w w19 _ t' M19 (cnt [(p2, 2)]) := C19
  have h19 := Lib.hid (((h11.out.kept K18.out).tri.other (c11.out.kept K18.out).tri P11.out.symm V19))
  have c19 := Lib.hid C19'
  rw [hL3]
  clear hL1 hL2 C19 C19' V19 hL3
  go_wp2_with fail
  refine (match_from k19 c19.out (by omega) ⟨#[97]⟩ (by decide) [2] who3).mono ?_
  rintro e w20 ⟨a20, cap20, rfl, o20, k20, kk20⟩
  have K20 := Lib.hid kk20
  clear o20 kk20
  go_wp2_with fail
  refine (match_from k20 ⟨h19.out.kept K20.out, h11.out.own⟩ (by omega) ⟨#[43]⟩ (by decide) [] (who4 _)).mono ?_
  rintro e w21 ⟨a21, cap21, rfl, o21, k21, kk21⟩
  clear o21 kk21
  go_wp2
  go_ret
  exact ⟨rfl, k21⟩
end Go.Proofs.YtalebnhkidhglaaGreat
