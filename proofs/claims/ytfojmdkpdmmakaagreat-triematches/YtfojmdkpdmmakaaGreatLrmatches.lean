/-
  The walk of the law TrieMatches.
-/
import Derived.Test.YtfojmdkpdmmakaaGreatRlaw2
import Derived.Test.YtfojmdkpdmmakaaGreatTref3
import Derived.Test.YtfojmdkpdmmakaaGreatTref5
import Derived.Test.YtfojmdkpdmmakaaGreatRquiet
namespace Go.Proofs.YtfojmdkpdmmakaaGreat
open Go.ChangeShapes Go.WideShapes Go.ChangeAt Go.RowKit Go.Maps

theorem filt_hash {q : Path} (h : Tp.filt (Tp.hash :: q) = true) : q = [] := by
  cases q with
  | nil => rfl
  | cons y ys =>
    rw [Tp.filt, Tp.part_hash, Bool.false_and] at h
    cases h
theorem filt_tail {y : List UInt8} {q : Path} (h : Tp.filt (y :: q) = true) : Tp.filt q = true := by
  cases q with
  | nil => rfl
  | cons z zs =>
    rw [Tp.filt, Bool.and_eq_true] at h
    exact h.2
/-- what the nodes let by is what the filter lets by -/
theorem lets_cov : ∀ (f t : Path), Tp.filt f = true → (∀ x ∈ t, x ≠ Tp.hash) → lets f t = Tp.cov f t
  | [], [], _, _ => rfl
  | [], _ :: _, _, _ => rfl
  | y :: q, [], hf, _ => by
    rw [lets, Tp.cov]
    by_cases e : y = Tp.hash
    · subst e
      rw [filt_hash hf]; rfl
    · rw [beq_eq_false_iff_ne.2 e]; rfl
  | y :: q, x :: ls, hf, hx => by
    rw [lets, Tp.cov]
    by_cases e : y = Tp.hash
    · subst e
      rw [if_pos rfl, filt_hash hf]
      simp
    · rw [if_neg e, if_neg (hx x (by simp)), beq_eq_false_iff_ne.2 e, Bool.false_and, Bool.false_or, lets_cov q ls (filt_tail hf) (fun z hz => hx z (List.mem_cons_of_mem _ hz))]
theorem lets_match {f s : List UInt8} (hf : Tp.filter f = true) (hs : Tp.right s = true) : lets (Tp.lev f) (Tp.lev s) = Tp.match_ f s := by
  rw [Tp.match_by hs, hf, Bool.true_and]
  refine lets_cov _ _ ?_ (Tp.right_nohash hs)
  unfold Tp.filter at hf
  rw [Bool.and_eq_true] at hf
  exact hf.2

/-- one of the first k lets it by -/
def LetK (gs : List (List UInt8)) (s : List UInt8) (k : Nat) (b : Bool) : Prop := b = true ↔ ∃ f ∈ gs.take k, Tp.match_ f s = true
theorem letK_nil {gs : List (List UInt8)} {s : List UInt8} : LetK gs s 0 false := by simp [LetK]
theorem letK_kept {gs : List (List UInt8)} {s : List UInt8} {k : Nat} (hk : k < gs.length) (h : LetK gs s k true) : LetK gs s (k + 1) true := by
  obtain ⟨o, h1, h2⟩ := h.1 rfl
  exact ⟨fun _ => ⟨o, by rw [take_snoc hk]; exact List.mem_append.2 (.inl h1), h2⟩, fun _ => rfl⟩
theorem letK_next {gs : List (List UInt8)} {s : List UInt8} {k : Nat} (hk : k < gs.length) (h : LetK gs s k false) {b : Bool} (hb : Tp.match_ gs[k] s = b) : LetK gs s (k + 1) b := by
  unfold LetK
  rw [take_snoc hk]
  constructor
  · intro hc
    exact ⟨gs[k], List.mem_append.2 (.inr (List.mem_singleton.2 rfl)), by rw [hb, hc]⟩
  · rintro ⟨f, h1, h2⟩
    rcases List.mem_append.1 h1 with h3 | h3
    · exact absurd (h.2 ⟨f, h3, h2⟩) (by decide)
    · rw [List.mem_singleton.1 h3, hb] at h2
      exact h2
/-- it is among the first k -/
def InK (ms : List Int) (i : Int) (k : Nat) (b : Bool) : Prop := b = true ↔ i ∈ ms.take k
theorem inK_nil {ms : List Int} {i : Int} : InK ms i 0 false := by simp [InK]
theorem inK_kept {ms : List Int} {i : Int} {k : Nat} (hk : k < ms.length) (h : InK ms i k true) : InK ms i (k + 1) true :=
  ⟨fun _ => by rw [take_snoc hk]; exact List.mem_append.2 (.inl (h.1 rfl)), fun _ => rfl⟩
theorem inK_next {ms : List Int} {i : Int} {k : Nat} (hk : k < ms.length) (h : InK ms i k false) {x : Int} (hx : ms[k] = x) : InK ms i (k + 1) (x == i) := by
  unfold InK
  rw [take_snoc hk, hx]
  constructor
  · intro hb
    rw [beq_iff_eq] at hb
    exact List.mem_append.2 (.inr (List.mem_singleton.2 hb.symm))
  · intro h1
    rcases List.mem_append.1 h1 with h3 | h3
    · exact absurd (h.2 h3) (by decide)
    · rw [beq_iff_eq, List.mem_singleton.1 h3]
theorem told_end {w : World} {n t : Nat} {N : Path → Option Loc} {A : Path → Int → Nat} (hT : Tri w n t N A) {s : List UInt8} {ms : List Int} (hw : Who A s ms) {i : Int} {gs : List (List UInt8)} (hg : His A i gs) {a b : Bool} (ha : LetK gs s gs.length a) (hb : InK ms i ms.length b) : a = b := by
  rw [Bool.eq_iff_iff]
  unfold LetK at ha
  unfold InK at hb
  rw [ha, hb, List.take_length, List.take_length, hw.2]
  constructor
  · rintro ⟨f, h1, h2⟩
    have hr := ((Tp.match_iff f s).1 h2).1
    have hA := (hg.2 f).1 h1
    have hf := (hT.fine _ i hA).1
    rw [Tp.join_lev] at hf
    exact ⟨hr, Tp.lev f, by rw [lets_match hf hr]; exact h2, hA⟩
  · rintro ⟨hr, q, h1, h2⟩
    obtain ⟨hf, hq, _⟩ := hT.fine q i h2
    refine ⟨Tp.join q, (hg.2 _).2 (by rw [hq]; exact h2), ?_⟩
    rw [← lets_match hf hr, hq]
    exact h1
theorem OwnS.at {w : World} {base : Nat} {a : Option Addr} {n cap : Nat} {xs : List (List UInt8)} (h : OwnS w base (.slice a n cap) xs) {k : Nat} (hk : k < xs.length) : ∃ g, ∃ p : ByteArray, a = some ⟨g, 0, none⟩ ∧ cap ≤ maxLen ∧ n ≤ cap ∧ w.cell? ⟨g, k, none⟩ = some (.string p) ∧ p.data.toList = xs[k] := by
  rcases h.2 with ⟨_, h0⟩ | ⟨g, cap', cur, e, hb, hg, h1, h2, h3, h4⟩
  · rw [h0] at hk; omega
  · cases e
    have := World.ownsRow.cellAt (w := w) (base := base) (e := 9) (size := 1) (g := g) (cap := cap) (n := xs.length) (xs := xs.map str) h k (by omega)
    obtain ⟨p, hp, _, lp⟩ := name_str xs[k]
    exact ⟨g, p, rfl, h2, h1, by rw [this, List.getElem?_map, List.getElem?_eq_getElem hk]; exact congrArg some hp, lp⟩
theorem cell_kept {w w' : World} (k : Kept w w') {g a : Nat} {x : Value} (h : w.cell? ⟨g, a, none⟩ = some x) : w'.cell? ⟨g, a, none⟩ = some x :=
  (Below.cell k (p := ⟨g, a, none⟩) (World.block_lt_of_cell? w _ h)).trans h
theorem filter_short {f : List UInt8} (h : Tp.filter f = true) : f.length ≤ 136 := by
  have hg := Good.of_filter h
  have := join_len (Tp.lev f) (fun x hx => (hg.2 x hx).2.1)
  rw [Tp.join_lev] at this
  have := hg.1
  omega
theorem ordered_at {fs : List (List UInt8)} (h : Ordered fs) {k : Nat} (hk : k + 1 < fs.length) : Tp.less (fs[k]'(by omega)) fs[k + 1] = true := List.pairwise_iff_getElem.1 h k (k + 1) (by omega) hk (by omega)
theorem OwnI.at {w : World} {base : Nat} {a : Option Addr} {n cap : Nat} {xs : List Int} (h : OwnI w base (.slice a n cap) xs) {k : Nat} (hk : k < xs.length) : ∃ g, a = some ⟨g, 0, none⟩ ∧ cap ≤ maxLen ∧ n ≤ cap ∧ w.cell? ⟨g, k, none⟩ = some (.int .i64 xs[k]) := by
  rcases h.2 with ⟨_, h0⟩ | ⟨g, cap', cur, e, hb, hg, h1, h2, h3, h4⟩
  · rw [h0] at hk; omega
  · cases e
    have := World.ownsRow.cellAt (w := w) (base := base) (e := 3) (size := 1) (g := g) (cap := cap) (n := xs.length) (xs := xs.map (Value.int .i64)) h k (by omega)
    exact ⟨g, rfl, h2, h1, by rw [this, List.getElem?_map, List.getElem?_eq_getElem hk]; rfl⟩
theorem his_filter {w : World} {n t : Nat} {N : Path → Option Loc} {A : Path → Int → Nat} (hT : Tri w n t N A) {i : Int} {fs : List (List UInt8)} (h : His A i fs) {f : List UInt8} (hf : f ∈ fs) : Tp.filter f = true := by
  have := (hT.fine _ i ((h.2 f).1 hf)).1
  rwa [Tp.join_lev] at this
theorem rises_at {ms : List Int} (h : ms.Pairwise (· < ·)) {k : Nat} (hk : k + 1 < ms.length) : ms[k]'(by omega) < ms[k + 1] := List.pairwise_iff_getElem.1 h k (k + 1) (by omega) hk (by omega)

set_option maxHeartbeats 4000000 in
set_option maxRecDepth 100000 in
theorem rmatches_walk (av : Option Addr) (len cap : Nat) (z : Nat → OpV) (s : ByteArray) (w : World) (hz : OpArg w av len cap z) (hs : s.size ≤ maxLen) :
    Calls Tryz.prog 4 #[.slice av len cap, .string s] w fun e w' => e = .returned (.bool true) ∧ Kept w w' := by
  unfold maxLen at hs
  have cc := cut_law av len cap z w hz
  clear hz
  go_enter Tryz.func4, Tryz.ntmps4
  go_wp2_with fail
  refine cc.mono ?_
  rintro e w1 ⟨a1, c1, os, rfl, o1, hos, hsm, k1⟩
  have O1 := Lib.hid o1
  have HS := Lib.hid hsm
  clear cc o1 hsm
  go_wp2_with fail
  refine (new_from k1).mono ?_
  rintro e w2 ⟨t, N2, rfl, T2, k2, kk2, _⟩
  have h2 : Hid (Tr w w2 0 t N2 (fun _ _ => 0)) := T2
  have O2 := Lib.hid (O1.out.kept kk2)
  clear T2 kk2 O1 k1
  have ss := cut_size s 150
  simp only [Int.cast_ofNat_Int] at ss
  obtain ⟨S, hS⟩ : ∃ S, s.extract 0 (min (s.size : Int) 150).toNat = S := ⟨_, rfl⟩
  rw [hS] at ss
  have HSS := Lib.hid hS
  clear hS
  go_wp2
  rw [HSS.out]
  go_loopw [7] (fun iv wr => ∃ (k n : Nat) (N : Path → Option Loc) (A : Path → Int → Nat), k ≤ os.length ∧ iv = .int .i64 k ∧ Tr w wr n t N A ∧ n ≤ 9 * k ∧ OwnO wr w.heap.size (.slice a1 os.length c1) os ∧ Kept w wr) (fun iv _ => os.length - (intOf iv).toNat)
  case atStart => exact ⟨0, 0, N2, _, Nat.zero_le _, rfl, h2.out, Nat.le_refl _, O2.out, k2⟩
  case round =>
    obtain ⟨k, n, N, A, hk, rfl, T3, hn3, o3, k3⟩ := hrel
    have HT3 := Lib.hid T3
    have HO3 := Lib.hid o3
    clear T3 o3 h2 O2 k2
    by_cases hlt : k < os.length
    · obtain ⟨g, rfl, hcm, hcl, d0, d1, d2, d3⟩ := HO3.out.at hlt
      have hso := HS.out os[k] (List.getElem_mem hlt)
      unfold maxLen at hcm
      obtain ⟨o, ho⟩ : ∃ o, os[k] = o := ⟨_, rfl⟩
      rw [ho] at d0 d1 d2 d3 hso
      have HSO := Lib.hid hso
      clear ho hso
      go_wp2_with fail
      refine (play_from k3 HT3.out (by omega) o (by have := HSO.out.1; omega) HSO.out.2.2.1).mono ?_
      rintro e w4 ⟨x4, y4, rfl, _, N4, T4, k4, M4⟩
      have HT4 := Lib.hid T4
      have HO4 := Lib.hid (HO3.out.moves HT3.out.tri.trie M4)
      clear T4 M4
      go_wp2
      go_roundw
      case rel => exact ⟨k + 1, n + 9, N4, _, by omega, by go_num, HT4.out, by omega, HO4.out, k4⟩
      case measure => simp [intOf]; omega
    · have hke : k = os.length := by omega
      subst hke
      go_wp2_with fail
      refine (match_law2 k3 HT3.out (by omega) S (by omega)).mono ?_
      rintro e w4 ⟨a4, c4, ms, rfl, o4, hw4, k4, kk4, hml⟩
      have HW4 := Lib.hid hw4
      have HT4 := Lib.hid (HT3.out.kept kk4)
      have HI4 := Lib.hid o4
      clear hw4 o4 kk4 HT3 HO3 k3
      go_wp2
      go_loopw [9] (fun iv wr => ∃ (d : Nat), d ≤ 6 ∧ iv = .int .i64 d ∧ Kept w4 wr) (fun iv _ => 6 - (intOf iv).toNat)
      case atStart => exact ⟨0, Nat.zero_le _, rfl, Kept.refl _⟩
      case round =>
        obtain ⟨d, hd, rfl, kk5⟩ := hrel
        by_cases hld : d < 6
        · have hwf : (Lit.int .i64 (d : Int)).wf = true := WalkArith.wf_i64 ⟨by omega, by omega⟩
          have HWF := Lib.hid hwf
          clear hwf
          go_wp2_with fail
          refine (of_law (k4.trans kk5) (HT4.out.kept kk5) (by omega) d HWF.out).mono ?_
          rintro e w7 ⟨a7, c7, gs, rfl, o7, hg7, k7, kk7⟩
          have HG7 := Lib.hid hg7
          have HS7 := Lib.hid o7
          have kk47 := kk5.trans kk7
          have HT7 := Lib.hid (HT4.out.kept kk47)
          have hgl : gs.length ≤ 9223372036854775807 := by
            rcases o7.2 with ⟨_, h0⟩ | ⟨_, cap, _, e, _, _, h0, h1, _⟩
            · omega
            · unfold maxLen at h1; omega
          clear hg7 o7 kk7 kk5
          go_wp2
          go_loopw [10, 13] (fun bv kv wr => ∃ (k : Nat) (b : Bool), k ≤ gs.length ∧ kv = .int .i64 k ∧ bv = .bool b ∧ LetK gs S.data.toList k b ∧ Kept w7 wr) (fun _ kv _ => gs.length - (intOf kv).toNat)
          case atStart => exact ⟨0, false, Nat.zero_le _, rfl, rfl, letK_nil, Kept.refl _⟩
          case round =>
            obtain ⟨k, b, hk, rfl, rfl, hlet, kk8⟩ := hrel
            have HLK := Lib.hid hlet
            clear hlet
            by_cases hlk : k < gs.length
            · obtain ⟨gg, P, rfl, hcm7, hcl7, e7, hP⟩ := HS7.out.at hlk
              unfold maxLen at hcm7
              have hfP : Tp.filter P.data.toList = true := by rw [hP]; exact his_filter HT7.out.tri HG7.out (List.getElem_mem hlk)
              have hPs := filter_short hfP
              rw [str_size] at hPs
              obtain ⟨c, hc⟩ : ∃ c, A (Tp.lev P.data.toList) (d : Int) = c := ⟨_, rfl⟩
              have hc1 : 0 < c := by rw [← hc, hP]; exact (HG7.out.2 _).1 (List.getElem_mem hlk)
              obtain ⟨mb, hmb⟩ : ∃ mb, Tp.match_ P.data.toList S.data.toList = mb := ⟨_, rfl⟩
              have HMB := Lib.hid hmb
              have HP := Lib.hid hP
              have E7 := Lib.hid e7
              have HCC := Lib.hid hc
              have hc3 : ¬ (c < 1) := by omega
              have hc4 : ¬ (c = 0) := by omega
              have s4 := cell_kept kk8 e7
              clear hP e7 hc hmb hfP
              by_cases h0 : k = 0
              · have h0' : ¬ (0 < k) := by omega
                clear h0
                cases b
                · go_wp2_with fail
                  refine (rmatch_any P S _ (by omega) (by omega)).mono ?_
                  rintro e wr9 ⟨rfl, kk89⟩
                  rw [HMB.out]
                  have kk9 := kk8.trans kk89
                  clear s4 kk89
                  have CH : Hid (∀ p : KW wr9, Calls Tryz.prog 20 #[.pointer (some ⟨t, 0, none⟩), .string P, .int .i64 (d : Int)] p.v fun e w' => e = .returned (.int .i64 c) ∧ Kept p.v w') := fun p => (has_from (k7.trans (kk9.trans p.h)) (HT7.out.kept (kk9.trans p.h)) P (by omega) d HWF.out c HCC.out).mono fun _ _ h => ⟨h.1, h.2.2⟩
                  have s5 := KW.cell (cell_kept kk9 E7.out)
                  go_wp2_with fail
                  have hc5 : ¬ ((c : Int) < 1) := by omega
                  have nn : Nonempty (KW wr9) := ⟨⟨wr9, Kept.refl wr9⟩⟩
                  refine wp_region_kept (by kernel_rfl) (by kernel_rfl) ?_
                  repeat (go_big_quiet_step (first | (go_at_call 20; exact KW.calls _ (CH.out _))))
                  refine wpQuiet_nil ?_
                  intro w10 hw10
                  have kk10 : Kept w7 w10 := by
                    obtain ⟨p, rfl⟩ := hw10
                    exact kk9.trans p.h
                  clear hw10 nn
                  clear s5
                  go_wp2
                  go_roundw
                  case rel =>
                    (first
                      | exact ⟨k + 1, mb, by omega, by go_num, rfl, letK_next hlk HLK.out (by rw [← HP.out]; exact HMB.out), kk10⟩
                      | (repeat apply Exists.intro
                         refine ⟨?_, rfl⟩
                         exact ⟨k + 1, mb, by omega, by go_num, rfl, letK_next hlk HLK.out (by rw [← HP.out]; exact HMB.out), kk10⟩))
                  case measure => simp [intOf]; omega
                · obtain ⟨wr9, hwr9⟩ : ∃ x, x = wr := ⟨_, rfl⟩
                  subst hwr9
                  have kk9 := kk8
                  clear s4
                  have CH : Hid (∀ p : KW wr9, Calls Tryz.prog 20 #[.pointer (some ⟨t, 0, none⟩), .string P, .int .i64 (d : Int)] p.v fun e w' => e = .returned (.int .i64 c) ∧ Kept p.v w') := fun p => (has_from (k7.trans (kk9.trans p.h)) (HT7.out.kept (kk9.trans p.h)) P (by omega) d HWF.out c HCC.out).mono fun _ _ h => ⟨h.1, h.2.2⟩
                  have s5 := KW.cell (cell_kept kk9 E7.out)
                  go_wp2_with fail
                  have hc5 : ¬ ((c : Int) < 1) := by omega
                  have nn : Nonempty (KW wr9) := ⟨⟨wr9, Kept.refl wr9⟩⟩
                  refine wp_region_kept (by kernel_rfl) (by kernel_rfl) ?_
                  repeat (go_big_quiet_step (first | (go_at_call 20; exact KW.calls _ (CH.out _))))
                  refine wpQuiet_nil ?_
                  intro w10 hw10
                  have kk10 : Kept w7 w10 := by
                    obtain ⟨p, rfl⟩ := hw10
                    exact kk9.trans p.h
                  clear hw10 nn
                  clear s5
                  go_wp2
                  go_roundw
                  case rel =>
                    (first
                      | exact ⟨k + 1, true, by omega, by go_num, rfl, letK_kept hlk HLK.out, kk10⟩
                      | (repeat apply Exists.intro
                         refine ⟨?_, rfl⟩
                         exact ⟨k + 1, true, by omega, by go_num, rfl, letK_kept hlk HLK.out, kk10⟩))
                  case measure => simp [intOf]; omega
              · obtain ⟨j, hj⟩ : ∃ j, k = j + 1 := ⟨k - 1, by omega⟩
                have h0' : 0 < k := by omega
                have hw1 : IntKind.i64.wrap ((k : Int) - 1) = (j : Int) := by rw [IntKind.wrap_i64]; omega
                obtain ⟨g', R, eg, _, _, d5, hR⟩ := HS7.out.at (k := j) (by omega)
                cases eg
                have hfR : Tp.filter R.data.toList = true := by rw [hR]; exact his_filter HT7.out.tri HG7.out (List.getElem_mem (by omega))
                have hRs := filter_short hfR
                rw [str_size] at hRs
                have HLE : Hid (Tp.less R.data.toList P.data.toList = true) := by
                  show _ = _
                  subst hj
                  rw [hR, HP.out]
                  exact ordered_at HG7.out.1 hlk
                have E8 := Lib.hid d5
                have hji : (j : Int) < (gs.length : Int) := by omega
                clear hR hfR d5 h0 hj
                cases b
                · go_wp2_with fail
                  refine (rmatch_any P S _ (by omega) (by omega)).mono ?_
                  rintro e wr9 ⟨rfl, kk89⟩
                  rw [HMB.out]
                  have kk9 := kk8.trans kk89
                  clear s4 kk89
                  have CH : Hid (∀ p : KW wr9, Calls Tryz.prog 20 #[.pointer (some ⟨t, 0, none⟩), .string P, .int .i64 (d : Int)] p.v fun e w' => e = .returned (.int .i64 c) ∧ Kept p.v w') := fun p => (has_from (k7.trans (kk9.trans p.h)) (HT7.out.kept (kk9.trans p.h)) P (by omega) d HWF.out c HCC.out).mono fun _ _ h => ⟨h.1, h.2.2⟩
                  have s5 := KW.cell (cell_kept kk9 E7.out)
                  have s6 := KW.cell (cell_kept kk9 E8.out)
                  have CL : Hid (∀ p : KW wr9, Calls Tryz.prog 24 #[.string R, .string P] p.v fun e w' => e = .returned (.bool true) ∧ Kept p.v w') := fun p => by
                    have := rless_any R P p.v (by omega) (by omega)
                    rwa [HLE.out] at this
                  go_wp2_with fail
                  have hc5 : ¬ ((c : Int) < 1) := by omega
                  have nn : Nonempty (KW wr9) := ⟨⟨wr9, Kept.refl wr9⟩⟩
                  refine wp_region_kept (by kernel_rfl) (by kernel_rfl) ?_
                  repeat (go_big_quiet_step (first | (go_at_call 20; exact KW.calls _ (CH.out _)) | (go_at_call 24; exact KW.calls _ (CL.out _))))
                  refine wpQuiet_nil ?_
                  intro w10 hw10
                  have kk10 : Kept w7 w10 := by
                    obtain ⟨p, rfl⟩ := hw10
                    exact kk9.trans p.h
                  clear hw10 nn
                  clear s5 s6
                  go_wp2
                  go_roundw
                  case rel =>
                    (first
                      | exact ⟨k + 1, mb, by omega, by go_num, rfl, letK_next hlk HLK.out (by rw [← HP.out]; exact HMB.out), kk10⟩
                      | (repeat apply Exists.intro
                         refine ⟨?_, rfl⟩
                         exact ⟨k + 1, mb, by omega, by go_num, rfl, letK_next hlk HLK.out (by rw [← HP.out]; exact HMB.out), kk10⟩))
                  case measure => simp [intOf]; omega
                · obtain ⟨wr9, hwr9⟩ : ∃ x, x = wr := ⟨_, rfl⟩
                  subst hwr9
                  have kk9 := kk8
                  clear s4
                  have CH : Hid (∀ p : KW wr9, Calls Tryz.prog 20 #[.pointer (some ⟨t, 0, none⟩), .string P, .int .i64 (d : Int)] p.v fun e w' => e = .returned (.int .i64 c) ∧ Kept p.v w') := fun p => (has_from (k7.trans (kk9.trans p.h)) (HT7.out.kept (kk9.trans p.h)) P (by omega) d HWF.out c HCC.out).mono fun _ _ h => ⟨h.1, h.2.2⟩
                  have s5 := KW.cell (cell_kept kk9 E7.out)
                  have s6 := KW.cell (cell_kept kk9 E8.out)
                  have CL : Hid (∀ p : KW wr9, Calls Tryz.prog 24 #[.string R, .string P] p.v fun e w' => e = .returned (.bool true) ∧ Kept p.v w') := fun p => by
                    have := rless_any R P p.v (by omega) (by omega)
                    rwa [HLE.out] at this
                  go_wp2_with fail
                  have hc5 : ¬ ((c : Int) < 1) := by omega
                  have nn : Nonempty (KW wr9) := ⟨⟨wr9, Kept.refl wr9⟩⟩
                  refine wp_region_kept (by kernel_rfl) (by kernel_rfl) ?_
                  repeat (go_big_quiet_step (first | (go_at_call 20; exact KW.calls _ (CH.out _)) | (go_at_call 24; exact KW.calls _ (CL.out _))))
                  refine wpQuiet_nil ?_
                  intro w10 hw10
                  have kk10 : Kept w7 w10 := by
                    obtain ⟨p, rfl⟩ := hw10
                    exact kk9.trans p.h
                  clear hw10 nn
                  clear s5 s6
                  go_wp2
                  go_roundw
                  case rel =>
                    (first
                      | exact ⟨k + 1, true, by omega, by go_num, rfl, letK_kept hlk HLK.out, kk10⟩
                      | (repeat apply Exists.intro
                         refine ⟨?_, rfl⟩
                         exact ⟨k + 1, true, by omega, by go_num, rfl, letK_kept hlk HLK.out, kk10⟩))
                  case measure => simp [intOf]; omega
            · have hke : k = gs.length := by omega
              subst hke
              have HLE := Lib.hid HLK.out
              go_wp2
              go_loopw [11, 14] (fun bv kv wr => ∃ (k : Nat) (b : Bool), k ≤ ms.length ∧ kv = .int .i64 k ∧ bv = .bool b ∧ InK ms (d : Int) k b ∧ Kept w7 wr) (fun _ kv _ => ms.length - (intOf kv).toNat)
              case atStart => exact ⟨0, false, Nat.zero_le _, rfl, rfl, inK_nil, kk8⟩
              case round =>
                obtain ⟨k, b', hk', rfl, rfl, hin, kk9⟩ := hrel
                have HIN := Lib.hid hin
                clear hin kk8
                by_cases hlk : k < ms.length
                · obtain ⟨g, rfl, hcm, hcl, d0⟩ := (HI4.out.kept (kk47.trans kk9)).at hlk
                  unfold maxLen at hcm
                  obtain ⟨x, hx⟩ : ∃ x, ms[k] = x := ⟨_, rfl⟩
                  rw [hx] at d0
                  have HXX := Lib.hid hx
                  clear hx
                  cases b'
                  · go_wp2
                    go_roundw
                    case rel =>
                      (first
                        | exact ⟨k + 1, _, by omega, by go_num, rfl, inK_next hlk HIN.out HXX.out, kk9⟩
                        | (repeat apply Exists.intro
                           refine ⟨?_, rfl⟩
                           exact ⟨k + 1, _, by omega, by go_num, rfl, inK_next hlk HIN.out HXX.out, kk9⟩))
                    case measure => simp [intOf]; omega
                  · go_wp2
                    go_roundw
                    case rel =>
                      (first
                        | exact ⟨k + 1, true, by omega, by go_num, rfl, inK_kept hlk HIN.out, kk9⟩
                        | (repeat apply Exists.intro
                           refine ⟨?_, rfl⟩
                           exact ⟨k + 1, true, by omega, by go_num, rfl, inK_kept hlk HIN.out, kk9⟩))
                    case measure => simp [intOf]; omega
                · have hke : k = ms.length := by omega
                  subst hke
                  have hbb : b = b' := told_end HT4.out.tri HW4.out HG7.out HLE.out HIN.out
                  subst hbb
                  have k9 := kk47.trans kk9
                  cases b
                  · go_wp2
                    go_roundw
                    case rel => exact ⟨d + 1, by omega, by go_num, k9⟩
                    case measure => simp [intOf]; omega
                  · go_wp2
                    go_roundw
                    case rel => exact ⟨d + 1, by omega, by go_num, k9⟩
                    case measure => simp [intOf]; omega
        · go_wp2
          go_loopw [15] (fun kv wr => ∃ (k : Nat), k ≤ 1000001 ∧ kv = .int .i64 (k + 1 : Nat) ∧ Kept w4 wr) (fun kv _ => ms.length - (intOf kv).toNat)
          case atStart => exact ⟨0, Nat.zero_le _, rfl, kk5⟩
          case round =>
            obtain ⟨k, hk, rfl, kk6⟩ := hrel
            by_cases hlk : k + 1 < ms.length
            · obtain ⟨g, rfl, hcm, hcl, d0⟩ := (HI4.out.kept kk6).at (k := k) (by omega)
              obtain ⟨g', eg, _, _, d1⟩ := (HI4.out.kept kk6).at hlk
              cases eg
              unfold maxLen at hcm
              have hlt := rises_at HW4.out.1 hlk
              obtain ⟨x, hx⟩ : ∃ x, ms[k]'(by omega) = x := ⟨_, rfl⟩
              obtain ⟨y, hy⟩ : ∃ y, ms[k + 1] = y := ⟨_, rfl⟩
              rw [hx] at d0 hlt
              rw [hy] at d1 hlt
              have hxy : ¬ (y ≤ x) := by omega
              have s5 := KW.cell d0
              have s6 := KW.cell d1
              clear hx hy d0 d1
              go_wp2_with fail
              have nn : Nonempty (KW wr) := ⟨⟨wr, Kept.refl wr⟩⟩
              refine wp_region_kept (by kernel_rfl) (by kernel_rfl) ?_
              repeat (go_big_quiet_step (fail))
              refine wpQuiet_nil ?_
              intro w10 hw10
              have kk10 : Kept w4 w10 := by
                obtain ⟨p, rfl⟩ := hw10
                exact kk6.trans p.h
              clear hw10 nn
              clear s5 s6
              go_wp2
              go_roundw
              case rel => exact ⟨k + 1, by omega, by go_num, kk10⟩
              case measure => simp [intOf]; omega
            · have k6 := k4.trans kk6
              go_wp2_with fail
              refine (fixed_law k6).mono ?_
              rintro e w7 ⟨rfl, k7⟩
              go_wp2
              go_ret
              exact ⟨rfl, k7⟩
end Go.Proofs.YtfojmdkpdmmakaaGreat
