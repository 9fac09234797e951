/-
  The walk of the law TrieAll.
-/
import Derived.Test.YtfojmdkpdmmakaaRlaw2
import Derived.Test.YtfojmdkpdmmakaaTref3
import Derived.Test.YtfojmdkpdmmakaaRquiet
namespace Go.Proofs.Ytfojmdkpdmmakaa
open Go.ChangeShapes Go.WideShapes Go.ChangeAt Go.RowKit Go.Maps

/-- whoever asks is one of the script's -/
def Ids (A : Path → Int → Nat) (os : List OpV) : Prop := ∀ q i, 0 < A q i → ∃ o ∈ os, o.id = i
theorem ids_play {A : Path → Int → Nat} {os : List OpV} {k : Nat} (hk : k < os.length) (h : Ids A (os.take k)) : Ids (playA A os[k]) (os.take (k + 1)) := by
  rw [take_snoc hk]
  have up : ∀ i, (∃ o ∈ os.take k, o.id = i) → ∃ o ∈ os.take k ++ [os[k]], o.id = i := fun i ⟨o, h1, h2⟩ => ⟨o, List.mem_append.2 (.inl h1), h2⟩
  intro q i hi
  unfold playA at hi
  split at hi
  · unfold addA at hi
    split at hi
    · rcases bump_pos hi with h1 | ⟨_, rfl⟩
      · exact up i (h q i h1)
      · exact ⟨os[k], List.mem_append.2 (.inr (List.mem_singleton.2 rfl)), rfl⟩
    · exact up i (h q i hi)
  · split at hi
    · unfold dropA at hi
      split at hi
      · exact up i (h q i (bump_less (by omega) hi))
      · exact up i (h q i hi)
    · split at hi
      · unfold leaveA at hi
        split at hi
        · omega
        · exact up i (h q i hi)
      · exact up i (h q i hi)
theorem OwnS.at {w : World} {base : Nat} {a : Option Addr} {n cap : Nat} {xs : List (List UInt8)} (h : OwnS w base (.slice a n cap) xs) {k : Nat} (hk : k < xs.length) : ∃ g, ∃ p : ByteArray, a = some ⟨g, 0, none⟩ ∧ cap ≤ maxLen ∧ n ≤ cap ∧ w.cell? ⟨g, k, none⟩ = some (.string p) ∧ p.data.toList = xs[k] := by
  rcases h.2 with ⟨_, h0⟩ | ⟨g, cap', cur, e, hb, hg, h1, h2, h3, h4⟩
  · rw [h0] at hk; omega
  · cases e
    have := World.ownsRow.cellAt (w := w) (base := base) (e := 9) (size := 1) (g := g) (cap := cap) (n := xs.length) (xs := xs.map str) h k (by omega)
    obtain ⟨p, hp, _, lp⟩ := name_str xs[k]
    exact ⟨g, p, rfl, h2, h1, by rw [this, List.getElem?_map, List.getElem?_eq_getElem hk]; exact congrArg some hp, lp⟩
theorem cell_kept {w w' : World} (k : Kept w w') {g a : Nat} {x : Value} (h : w.cell? ⟨g, a, none⟩ = some x) : w'.cell? ⟨g, a, none⟩ = some x :=
  (Below.cell k (p := ⟨g, a, none⟩) (World.block_lt_of_cell? w _ h)).trans h
theorem filter_short {f : List UInt8} (h : Tp.filter f = true) : f.length ≤ 136 := by
  have hg := Good.of_filter h
  have := join_len (Tp.lev f) (fun x hx => (hg.2 x hx).2.1)
  rw [Tp.join_lev] at this
  have := hg.1
  omega
theorem some_filter {w : World} {n t : Nat} {N : Path → Option Loc} {A : Path → Int → Nat} (hT : Tri w n t N A) {fs : List (List UInt8)} (h : Some_ A fs) {f : List UInt8} (hf : f ∈ fs) : Tp.filter f = true := by
  obtain ⟨i, hi⟩ := (h.2 f).1 hf
  have := (hT.fine _ i hi).1
  rwa [Tp.join_lev] at this
theorem ordered_at {fs : List (List UInt8)} (h : Ordered fs) {k : Nat} (hk : k + 1 < fs.length) : Tp.less (fs[k]'(by omega)) fs[k + 1] = true := List.pairwise_iff_getElem.1 h k (k + 1) (by omega) hk (by omega)

/-- one of the first k asks for the filter -/
def AskK (A : Path → Int → Nat) (os : List OpV) (f : List UInt8) (k : Nat) (b : Bool) : Prop := b = true ↔ ∃ o ∈ os.take k, 0 < A (Tp.lev f) o.id
theorem asks_nil {A : Path → Int → Nat} {os : List OpV} {f : List UInt8} : AskK A os f 0 false := by simp [AskK]
theorem asks_kept {A : Path → Int → Nat} {os : List OpV} {f : List UInt8} {k : Nat} (hk : k < os.length) (h : AskK A os f k true) : AskK A os f (k + 1) true := by
  obtain ⟨o, h1, h2⟩ := h.1 rfl
  exact ⟨fun _ => ⟨o, by rw [take_snoc hk]; exact List.mem_append.2 (.inl h1), h2⟩, fun _ => rfl⟩
theorem asks_next {A : Path → Int → Nat} {os : List OpV} {f : List UInt8} {k : Nat} (hk : k < os.length) (h : AskK A os f k false) {c : Nat} (hc : A (Tp.lev f) os[k].id = c) : AskK A os f (k + 1) (decide (0 < c)) := by
  unfold AskK
  rw [take_snoc hk]
  constructor
  · intro hb
    have : 0 < c := by simpa using hb
    exact ⟨os[k], List.mem_append.2 (.inr (List.mem_singleton.2 rfl)), by omega⟩
  · rintro ⟨o, h1, h2⟩
    rcases List.mem_append.1 h1 with h3 | h3
    · exact absurd (h.2 ⟨o, h3, h2⟩) (by decide)
    · rw [List.mem_singleton.1 h3, hc] at h2
      simpa using h2
theorem asks_end {A : Path → Int → Nat} {os : List OpV} {fs : List (List UInt8)} (hs : Some_ A fs) (hi : Ids A os) {f : List UInt8} (hf : f ∈ fs) {b : Bool} (h : AskK A os f os.length b) : b = true := by
  obtain ⟨i, h1⟩ := (hs.2 f).1 hf
  obtain ⟨o, h2, rfl⟩ := hi _ i h1
  exact h.2 ⟨o, by rwa [List.take_length], h1⟩
/-- it is among the first k -/
def Here (fs : List (List UInt8)) (f : List UInt8) (k : Nat) (b : Bool) : Prop := b = true ↔ f ∈ fs.take k
theorem here_nil {fs : List (List UInt8)} {f : List UInt8} : Here fs f 0 false := by simp [Here]
theorem here_kept {fs : List (List UInt8)} {f : List UInt8} {k : Nat} (hk : k < fs.length) (h : Here fs f k true) : Here fs f (k + 1) true :=
  ⟨fun _ => by rw [take_snoc hk]; exact List.mem_append.2 (.inl (h.1 rfl)), fun _ => rfl⟩
theorem here_next {fs : List (List UInt8)} {k : Nat} (hk : k < fs.length) {p q : ByteArray} (hp : p.data.toList = fs[k]) (h : Here fs q.data.toList k false) : Here fs q.data.toList (k + 1) (p.toList == q.toList) := by
  unfold Here
  rw [take_snoc hk]
  constructor
  · intro hb
    rw [beq_iff_eq, toList_eq, toList_eq] at hb
    exact List.mem_append.2 (.inr (List.mem_singleton.2 (by rw [← hb, hp])))
  · intro h1
    rcases List.mem_append.1 h1 with h3 | h3
    · exact absurd (h.2 h3) (by decide)
    · rw [beq_iff_eq, toList_eq, toList_eq, hp, List.mem_singleton.1 h3]
theorem here_end {A : Path → Int → Nat} {fs gs : List (List UInt8)} (hs : Some_ A fs) {i : Int} (hg : His A i gs) {f : List UInt8} (hf : f ∈ gs) {b : Bool} (h : Here fs f fs.length b) : b = true :=
  h.2 (by rw [List.take_length]; exact (hs.2 f).2 ⟨i, (hg.2 f).1 hf⟩)

set_option maxHeartbeats 4000000 in
set_option maxRecDepth 100000 in
theorem rall_walk (av : Option Addr) (len cap : Nat) (z : Nat → OpV) (w : World) (hz : OpArg w av len cap z) :
    Calls Try.prog 7 #[.slice av len cap] w fun e w' => e = .returned (.bool true) ∧ Kept w w' := by
  have cc := cut_law av len cap z w hz
  clear hz
  go_enter Try.func7, Try.ntmps7
  go_wp2_with fail
  refine cc.mono ?_
  rintro e w1 ⟨a1, c1, os, rfl, o1, hos, hsm, k1⟩
  have O1 := Lib.hid o1
  have HS := Lib.hid hsm
  clear cc o1 hsm
  go_wp2_with fail
  refine (new_from k1).mono ?_
  rintro e w2 ⟨t, N2, rfl, T2, k2, kk2, _⟩
  have h2 : Hid (Tr w w2 0 t N2 (fun _ _ => 0)) := T2
  have O2 := Lib.hid (O1.out.kept kk2)
  clear T2 kk2 O1 k1
  go_wp2
  go_loopw [5] (fun iv wr => ∃ (k n : Nat) (N : Path → Option Loc) (A : Path → Int → Nat), k ≤ os.length ∧ iv = .int .i64 k ∧ Tr w wr n t N A ∧ n ≤ 9 * k ∧ Ids A (os.take k) ∧ OwnO wr w.heap.size (.slice a1 os.length c1) os ∧ Kept w wr) (fun iv _ => os.length - (intOf iv).toNat)
  case atStart => exact ⟨0, 0, N2, _, Nat.zero_le _, rfl, h2.out, Nat.le_refl _, fun q i h => absurd h (by simp), O2.out, k2⟩
  case round =>
    obtain ⟨k, n, N, A, hk, rfl, T3, hn3, hids, o3, k3⟩ := hrel
    have HID := Lib.hid hids
    clear hids
    have HT3 := Lib.hid T3
    have HO3 := Lib.hid o3
    clear T3 o3 h2 O2 k2
    by_cases hlt : k < os.length
    · obtain ⟨g, rfl, hcm, hcl, d0, d1, d2, d3⟩ := HO3.out.at hlt
      have hso := HS.out os[k] (List.getElem_mem hlt)
      unfold maxLen at hcm
      obtain ⟨o, ho⟩ : ∃ o, os[k] = o := ⟨_, rfl⟩
      rw [ho] at d0 d1 d2 d3 hso
      have HSO := Lib.hid hso
      have HOE := Lib.hid ho
      clear ho hso
      go_wp2_with fail
      refine (play_from k3 HT3.out (by omega) o (by have := HSO.out.1; omega) HSO.out.2.2.1).mono ?_
      rintro e w4 ⟨x4, y4, rfl, _, N4, T4, k4, M4⟩
      have HT4 := Lib.hid T4
      have HO4 := Lib.hid (HO3.out.moves HT3.out.tri.trie M4)
      clear T4 M4
      go_wp2
      go_roundw
      case rel => exact ⟨k + 1, n + 9, N4, _, by omega, by go_num, HT4.out, by omega, by rw [← HOE.out]; exact ids_play hlt HID.out, HO4.out, k4⟩
      case measure => simp [intOf]; omega
    · have hke : k = os.length := by omega
      subst hke
      have HID2 : Hid (Ids A os) := by
        have := HID.out
        rwa [List.take_length] at this
      clear HID
      go_wp2_with fail
      refine (all_law k3 HT3.out (by omega)).mono ?_
      rintro e w4 ⟨a4, c4, fs, rfl, o4, hf4, k4, kk4⟩
      have HF4 := Lib.hid hf4
      have HT4 := Lib.hid (HT3.out.kept kk4)
      have HO4 := Lib.hid (HO3.out.kept kk4)
      have HS4 := Lib.hid o4
      have hfl : fs.length ≤ 9223372036854775807 := by
        rcases o4.2 with ⟨_, h0⟩ | ⟨_, cap, _, e, _, _, h0, h1, _⟩
        · omega
        · unfold maxLen at h1; omega
      clear hf4 o4 kk4 HT3 HO3 k3
      go_wp2
      go_loopw [7] (fun iv wr => ∃ (i : Nat), i ≤ fs.length ∧ iv = .int .i64 i ∧ Kept w4 wr) (fun iv _ => fs.length - (intOf iv).toNat)
      case atStart => exact ⟨0, Nat.zero_le _, rfl, Kept.refl _⟩
      case round =>
        obtain ⟨i, hi, rfl, kk5⟩ := hrel
        by_cases hlt : i < fs.length
        · obtain ⟨g, P, rfl, hcm, hcl, d4, hP⟩ := HS4.out.at hlt
          unfold maxLen at hcm
          have hfP : Tp.filter P.data.toList = true := by rw [hP]; exact some_filter HT4.out.tri HF4.out (List.getElem_mem hlt)
          have hPs := filter_short hfP
          rw [str_size] at hPs
          have D4 := Lib.hid d4
          have s5 := KW.cell (cell_kept kk5 d4)
          have ca : ∀ p : KW wr, Calls Try.prog 22 #[.string P] p.v fun e w' => e = .returned (.bool true) ∧ Kept p.v w' := fun p => by
            have := rfilter_any P p.v (by omega)
            rwa [hfP] at this
          have CA := Lib.hid ca
          have HP := Lib.hid hP
          clear ca hP hfP d4
          by_cases h0 : i = 0
          · have h0' : ¬ (0 < i) := by omega
            have SX : True := trivial
            clear h0
            go_wp2_with fail
            have nn : Nonempty (KW wr) := ⟨⟨wr, Kept.refl wr⟩⟩
            refine wp_region_kept (by kernel_rfl) (by kernel_rfl) ?_
            repeat (go_big_quiet_step ((go_at_call 22; exact KW.calls _ (CA.out _))))
            refine wpQuiet_nil ?_
            intro w6 hw6
            have kk6 : Kept w4 w6 := by
              obtain ⟨p, rfl⟩ := hw6
              exact kk5.trans p.h
            clear hw6 nn
            clear s5 SX
            go_wp2
            go_loopw [8, 9] (fun bv jv wr => ∃ (k : Nat) (b : Bool), k ≤ os.length ∧ jv = .int .i64 k ∧ bv = .bool b ∧ AskK A os P.data.toList k b ∧ Kept w4 wr) (fun _ jv _ => os.length - (intOf jv).toNat)
            case atStart => exact ⟨0, false, Nat.zero_le _, rfl, rfl, asks_nil, kk6⟩
            case round =>
              obtain ⟨k, b, hk, rfl, rfl, has, kk5⟩ := hrel
              have HAS := Lib.hid has
              clear has kk6
              by_cases hlk : k < os.length
              · obtain ⟨go, rfl, hcm2, hcl2, f0, f1, f2, f3⟩ := (HO4.out.kept kk5).at hlk
                have hso := HS.out os[k] (List.getElem_mem hlk)
                unfold maxLen at hcm2
                obtain ⟨o, ho⟩ : ∃ o, os[k] = o := ⟨_, rfl⟩
                rw [ho] at f2 hso
                obtain ⟨oi, hoi⟩ : ∃ oi, o.id = oi := ⟨_, rfl⟩
                have hsi : (Lit.int .i64 oi).wf = true := by rw [← hoi]; exact hso.2.2.1
                rw [hoi] at f2
                obtain ⟨c, hc⟩ : ∃ c, A (Tp.lev P.data.toList) oi = c := ⟨_, rfl⟩
                have HNX := Lib.hid (fun h => asks_next (A := A) (os := os) (f := P.data.toList) hlk h (c := c) (by rw [ho, hoi]; exact hc))
                have HSI := Lib.hid hsi
                have HCC := Lib.hid hc
                have s5 := KW.cell (cell_kept kk5 D4.out)
                have s6 := KW.cell f2
                clear ho hso hoi hc hsi f0 f1 f3 f2
                have ch : ∀ p : KW wr, Calls Try.prog 15 #[.pointer (some ⟨t, 0, none⟩), .string P, .int .i64 oi] p.v fun e w' => e = .returned (.int .i64 c) ∧ Kept p.v w' := fun p => (has_from (k4.trans (kk5.trans p.h)) ((HT4.out.kept kk5).kept p.h) P (by omega) oi HSI.out c HCC.out).mono fun _ _ h => ⟨h.1, h.2.2⟩
                have CH := Lib.hid ch
                clear ch
                cases b
                · go_wp2_with fail
                  have nn : Nonempty (KW wr) := ⟨⟨wr, Kept.refl wr⟩⟩
                  refine wp_region_kept (by kernel_rfl) (by kernel_rfl) ?_
                  repeat (go_big_quiet_step ((go_at_call 15; exact KW.calls _ (CH.out _))))
                  refine wpQuiet_nil ?_
                  intro w6 hw6
                  have kk6 : Kept w4 w6 := by
                    obtain ⟨p, rfl⟩ := hw6
                    exact kk5.trans p.h
                  clear hw6 nn
                  clear s5 s6
                  go_wp2
                  go_roundw
                  case rel =>
                    (first
                      | exact ⟨k + 1, _, by omega, by go_num, rfl, HNX.out HAS.out, kk6⟩
                      | (repeat apply Exists.intro
                         refine ⟨?_, rfl⟩
                         exact ⟨k + 1, _, by omega, by go_num, rfl, HNX.out HAS.out, kk6⟩))
                  case measure => simp [intOf]; omega
                · go_wp2_with fail
                  have nn : Nonempty (KW wr) := ⟨⟨wr, Kept.refl wr⟩⟩
                  refine wp_region_kept (by kernel_rfl) (by kernel_rfl) ?_
                  repeat (go_big_quiet_step (fail))
                  refine wpQuiet_nil ?_
                  intro w6 hw6
                  have kk6 : Kept w4 w6 := by
                    obtain ⟨p, rfl⟩ := hw6
                    exact kk5.trans p.h
                  clear hw6 nn
                  clear s5 s6
                  go_wp2
                  go_roundw
                  case rel =>
                    (first
                      | exact ⟨k + 1, true, by omega, by go_num, rfl, asks_kept hlk HAS.out, kk6⟩
                      | (repeat apply Exists.intro
                         refine ⟨?_, rfl⟩
                         exact ⟨k + 1, true, by omega, by go_num, rfl, asks_kept hlk HAS.out, kk6⟩))
                  case measure => simp [intOf]; omega
              · have hke : k = os.length := by omega
                subst hke
                have hbt : b = true := asks_end HF4.out HID2.out (by rw [HP.out]; exact List.getElem_mem hlt) HAS.out
                subst hbt
                go_wp2
                go_roundw
                case rel => exact ⟨i + 1, by omega, by go_num, kk5⟩
                case measure => simp [intOf]; omega
          · obtain ⟨j, hj⟩ : ∃ j, i = j + 1 := ⟨i - 1, by omega⟩
            have h0' : 0 < i := by omega
            have hw1 : IntKind.i64.wrap ((i : Int) - 1) = (j : Int) := by rw [IntKind.wrap_i64]; omega
            obtain ⟨g', R, eg, _, _, d5, hR⟩ := HS4.out.at (k := j) (by omega)
            cases eg
            have hfR : Tp.filter R.data.toList = true := by rw [hR]; exact some_filter HT4.out.tri HF4.out (List.getElem_mem (by omega))
            have hRs := filter_short hfR
            rw [str_size] at hRs
            have hle : Tp.less R.data.toList P.data.toList = true := by
              subst hj
              rw [hR, HP.out]
              exact ordered_at HF4.out.1 hlt
            have SX := KW.cell (cell_kept kk5 d5)
            have cb : ∀ p : KW wr, Calls Try.prog 23 #[.string R, .string P] p.v fun e w' => e = .returned (.bool true) ∧ Kept p.v w' := fun p => by
              have := rless_any R P p.v (by omega) (by omega)
              rwa [hle] at this
            have CB := Lib.hid cb
            have hji : (j : Int) < (fs.length : Int) := by omega
            clear cb hle hR hfR d5 h0 hj
            go_wp2_with fail
            have nn : Nonempty (KW wr) := ⟨⟨wr, Kept.refl wr⟩⟩
            refine wp_region_kept (by kernel_rfl) (by kernel_rfl) ?_
            repeat (go_big_quiet_step ((first | (go_at_call 22; exact KW.calls _ (CA.out _)) | (go_at_call 23; exact KW.calls _ (CB.out _)))))
            refine wpQuiet_nil ?_
            intro w6 hw6
            have kk6 : Kept w4 w6 := by
              obtain ⟨p, rfl⟩ := hw6
              exact kk5.trans p.h
            clear hw6 nn
            clear s5 SX
            go_wp2
            go_loopw [8, 9] (fun bv jv wr => ∃ (k : Nat) (b : Bool), k ≤ os.length ∧ jv = .int .i64 k ∧ bv = .bool b ∧ AskK A os P.data.toList k b ∧ Kept w4 wr) (fun _ jv _ => os.length - (intOf jv).toNat)
            case atStart => exact ⟨0, false, Nat.zero_le _, rfl, rfl, asks_nil, kk6⟩
            case round =>
              obtain ⟨k, b, hk, rfl, rfl, has, kk5⟩ := hrel
              have HAS := Lib.hid has
              clear has kk6
              by_cases hlk : k < os.length
              · obtain ⟨go, rfl, hcm2, hcl2, f0, f1, f2, f3⟩ := (HO4.out.kept kk5).at hlk
                have hso := HS.out os[k] (List.getElem_mem hlk)
                unfold maxLen at hcm2
                obtain ⟨o, ho⟩ : ∃ o, os[k] = o := ⟨_, rfl⟩
                rw [ho] at f2 hso
                obtain ⟨oi, hoi⟩ : ∃ oi, o.id = oi := ⟨_, rfl⟩
                have hsi : (Lit.int .i64 oi).wf = true := by rw [← hoi]; exact hso.2.2.1
                rw [hoi] at f2
                obtain ⟨c, hc⟩ : ∃ c, A (Tp.lev P.data.toList) oi = c := ⟨_, rfl⟩
                have HNX := Lib.hid (fun h => asks_next (A := A) (os := os) (f := P.data.toList) hlk h (c := c) (by rw [ho, hoi]; exact hc))
                have HSI := Lib.hid hsi
                have HCC := Lib.hid hc
                have s5 := KW.cell (cell_kept kk5 D4.out)
                have s6 := KW.cell f2
                clear ho hso hoi hc hsi f0 f1 f3 f2
                have ch : ∀ p : KW wr, Calls Try.prog 15 #[.pointer (some ⟨t, 0, none⟩), .string P, .int .i64 oi] p.v fun e w' => e = .returned (.int .i64 c) ∧ Kept p.v w' := fun p => (has_from (k4.trans (kk5.trans p.h)) ((HT4.out.kept kk5).kept p.h) P (by omega) oi HSI.out c HCC.out).mono fun _ _ h => ⟨h.1, h.2.2⟩
                have CH := Lib.hid ch
                clear ch
                cases b
                · go_wp2_with fail
                  have nn : Nonempty (KW wr) := ⟨⟨wr, Kept.refl wr⟩⟩
                  refine wp_region_kept (by kernel_rfl) (by kernel_rfl) ?_
                  repeat (go_big_quiet_step ((go_at_call 15; exact KW.calls _ (CH.out _))))
                  refine wpQuiet_nil ?_
                  intro w6 hw6
                  have kk6 : Kept w4 w6 := by
                    obtain ⟨p, rfl⟩ := hw6
                    exact kk5.trans p.h
                  clear hw6 nn
                  clear s5 s6
                  go_wp2
                  go_roundw
                  case rel =>
                    (first
                      | exact ⟨k + 1, _, by omega, by go_num, rfl, HNX.out HAS.out, kk6⟩
                      | (repeat apply Exists.intro
                         refine ⟨?_, rfl⟩
                         exact ⟨k + 1, _, by omega, by go_num, rfl, HNX.out HAS.out, kk6⟩))
                  case measure => simp [intOf]; omega
                · go_wp2_with fail
                  have nn : Nonempty (KW wr) := ⟨⟨wr, Kept.refl wr⟩⟩
                  refine wp_region_kept (by kernel_rfl) (by kernel_rfl) ?_
                  repeat (go_big_quiet_step (fail))
                  refine wpQuiet_nil ?_
                  intro w6 hw6
                  have kk6 : Kept w4 w6 := by
                    obtain ⟨p, rfl⟩ := hw6
                    exact kk5.trans p.h
                  clear hw6 nn
                  clear s5 s6
                  go_wp2
                  go_roundw
                  case rel =>
                    (first
                      | exact ⟨k + 1, true, by omega, by go_num, rfl, asks_kept hlk HAS.out, kk6⟩
                      | (repeat apply Exists.intro
                         refine ⟨?_, rfl⟩
                         exact ⟨k + 1, true, by omega, by go_num, rfl, asks_kept hlk HAS.out, kk6⟩))
                  case measure => simp [intOf]; omega
              · have hke : k = os.length := by omega
                subst hke
                have hbt : b = true := asks_end HF4.out HID2.out (by rw [HP.out]; exact List.getElem_mem hlt) HAS.out
                subst hbt
                go_wp2
                go_roundw
                case rel => exact ⟨i + 1, by omega, by go_num, kk5⟩
                case measure => simp [intOf]; omega
        · have hie : i = fs.length := by omega
          subst hie
          go_wp2
          go_loopw [10] (fun iv wr => ∃ (k : Nat), k ≤ os.length ∧ iv = .int .i64 k ∧ Kept w4 wr) (fun iv _ => os.length - (intOf iv).toNat)
          case atStart => exact ⟨0, Nat.zero_le _, rfl, kk5⟩
          case round =>
            obtain ⟨k, hk, rfl, kk6⟩ := hrel
            by_cases hlk : k < os.length
            · obtain ⟨go, rfl, hcm2, hcl2, f0, f1, f2, f3⟩ := (HO4.out.kept kk6).at hlk
              have hso := HS.out os[k] (List.getElem_mem hlk)
              unfold maxLen at hcm2
              obtain ⟨o, ho⟩ : ∃ o, os[k] = o := ⟨_, rfl⟩
              rw [ho] at f2 hso
              obtain ⟨oi, hoi⟩ : ∃ oi, o.id = oi := ⟨_, rfl⟩
              have hsi : (Lit.int .i64 oi).wf = true := by rw [← hoi]; exact hso.2.2.1
              rw [hoi] at f2
              have HSI := Lib.hid hsi
              clear ho hso hoi hsi f0 f1 f3
              go_wp2_with fail
              refine (of_law (k4.trans kk6) (HT4.out.kept kk6) (by omega) oi HSI.out).mono ?_
              rintro e w7 ⟨a7, c7, gs, rfl, o7, hg7, k7, kk7⟩
              have HG7 := Lib.hid hg7
              have HS7 := Lib.hid o7
              have kk47 := kk6.trans kk7
              have hgl : gs.length ≤ 9223372036854775807 := by
                rcases o7.2 with ⟨_, h0⟩ | ⟨_, cap, _, e, _, _, h0, h1, _⟩
                · omega
                · unfold maxLen at h1; omega
              clear hg7 o7 kk7 f2
              go_wp2
              go_loopw [12] (fun iv wr => ∃ (i : Nat), i ≤ gs.length ∧ iv = .int .i64 i ∧ Kept w7 wr) (fun iv _ => gs.length - (intOf iv).toNat)
              case atStart => exact ⟨0, Nat.zero_le _, rfl, Kept.refl _⟩
              case round =>
                obtain ⟨i, hi, rfl, kk8⟩ := hrel
                by_cases hli : i < gs.length
                · obtain ⟨gg, P, rfl, hcm7, hcl7, e7, hP⟩ := HS7.out.at hli
                  unfold maxLen at hcm7
                  have HP := Lib.hid hP
                  have E7 := Lib.hid e7
                  clear hP e7
                  go_wp2
                  go_loopw [13, 14] (fun bv jv wr => ∃ (j : Nat) (b : Bool), j ≤ fs.length ∧ jv = .int .i64 j ∧ bv = .bool b ∧ Here fs P.data.toList j b ∧ Kept w7 wr) (fun _ jv _ => fs.length - (intOf jv).toNat)
                  case atStart => exact ⟨0, false, Nat.zero_le _, rfl, rfl, here_nil, kk8⟩
                  case round =>
                    obtain ⟨j, b, hj, rfl, rfl, hh, kk9⟩ := hrel
                    have HH := Lib.hid hh
                    clear hh kk8
                    by_cases hlj : j < fs.length
                    · obtain ⟨g, R, rfl, hcm, hcl, d4, hR⟩ := HS4.out.at hlj
                      unfold maxLen at hcm
                      have HR := Lib.hid hR
                      have s5 := KW.cell (cell_kept kk9 E7.out)
                      have s6 := KW.cell (cell_kept (kk47.trans kk9) d4)
                      clear hR d4
                      cases b
                      · go_wp2_with fail
                        have nn : Nonempty (KW wr) := ⟨⟨wr, Kept.refl wr⟩⟩
                        refine wp_region_kept (by kernel_rfl) (by kernel_rfl) ?_
                        repeat (go_big_quiet_step (fail))
                        refine wpQuiet_nil ?_
                        intro w10 hw10
                        have kk10 : Kept w7 w10 := by
                          obtain ⟨p, rfl⟩ := hw10
                          exact kk9.trans p.h
                        clear hw10 nn
                        clear s5 s6
                        go_wp2
                        go_roundw
                        case rel =>
                          (first
                            | exact ⟨j + 1, _, by omega, by go_num, rfl, here_next hlj HR.out HH.out, kk10⟩
                            | (repeat apply Exists.intro
                               refine ⟨?_, rfl⟩
                               exact ⟨j + 1, _, by omega, by go_num, rfl, here_next hlj HR.out HH.out, kk10⟩))
                        case measure => simp [intOf]; omega
                      · go_wp2_with fail
                        have nn : Nonempty (KW wr) := ⟨⟨wr, Kept.refl wr⟩⟩
                        refine wp_region_kept (by kernel_rfl) (by kernel_rfl) ?_
                        repeat (go_big_quiet_step (fail))
                        refine wpQuiet_nil ?_
                        intro w10 hw10
                        have kk10 : Kept w7 w10 := by
                          obtain ⟨p, rfl⟩ := hw10
                          exact kk9.trans p.h
                        clear hw10 nn
                        clear s5 s6
                        go_wp2
                        go_roundw
                        case rel =>
                          (first
                            | exact ⟨j + 1, true, by omega, by go_num, rfl, here_kept hlj HH.out, kk10⟩
                            | (repeat apply Exists.intro
                               refine ⟨?_, rfl⟩
                               exact ⟨j + 1, true, by omega, by go_num, rfl, here_kept hlj HH.out, kk10⟩))
                        case measure => simp [intOf]; omega
                    · have hje : j = fs.length := by omega
                      subst hje
                      have hbt : b = true := here_end HF4.out HG7.out (by rw [HP.out]; exact List.getElem_mem hli) HH.out
                      subst hbt
                      go_wp2
                      go_roundw
                      case rel => exact ⟨i + 1, by omega, by go_num, kk9⟩
                      case measure => simp [intOf]; omega
                · go_wp2
                  go_roundw
                  case rel => exact ⟨k + 1, by omega, by go_num, kk47.trans kk8⟩
                  case measure => simp [intOf]; omega
            · have k6 := k4.trans kk6
              go_wp2_with fail
              refine (fixed_law k6).mono ?_
              rintro e w7 ⟨rfl, k7⟩
              go_wp2
              go_ret
              exact ⟨rfl, k7⟩
end Go.Proofs.Ytfojmdkpdmmakaa
