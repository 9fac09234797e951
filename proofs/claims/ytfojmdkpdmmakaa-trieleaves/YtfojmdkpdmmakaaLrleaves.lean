/-
  The walk of the law TrieLeaves.
-/
import Derived.Test.YtfojmdkpdmmakaaRlaw2
namespace Go.Proofs.Ytfojmdkpdmmakaa
open Go.ChangeShapes Go.WideShapes Go.ChangeAt Go.RowKit Go.Maps

theorem ordered_nodup {fs : List (List UInt8)} (h : Ordered fs) : fs.Nodup := pw_mono h (fun a b _ _ h e => by subst e; rw [Tp.less_irrefl] at h; cases h)
theorem his_len {w : World} {n t : Nat} {N : Path → Option Loc} {A : Path → Int → Nat} (hT : Tri w n t N A) {i : Int} {L : List Path} (h1 : L.Nodup) (h2 : ∀ q, q ∈ L ↔ 0 < A q i) {fs : List (List UInt8)} (h : His A i fs) : L.length = fs.length := by
  have hj : ∀ q ∈ L, Tp.lev (Tp.join q) = q := fun q hq => (hT.fine q i ((h2 q).1 hq)).2.1
  have hn : (L.map Tp.join).Nodup := by
    rw [List.Nodup, List.pairwise_map]
    refine pw_mono h1 (fun a b ha hb hab e => hab ?_)
    rw [← hj a ha, ← hj b hb, e]
  have a1 := nodup_le hn (S := fs) (fun f hf => by
    obtain ⟨q, hq, rfl⟩ := List.mem_map.1 hf
    rw [h.2, hj q hq]
    exact (h2 q).1 hq)
  have a2 := nodup_le (ordered_nodup h.1) (S := L.map Tp.join) (fun f hf => List.mem_map.2 ⟨Tp.lev f, (h2 _).2 ((h.2 f).1 hf), Tp.join_lev f⟩)
  rw [List.length_map] at a1 a2
  omega
theorem leave_at (A : Path → Int → Nat) (i : Int) (q : Path) : leaveA A i q i = 0 := by unfold leaveA; rw [if_pos rfl]
theorem leave_pos {A : Path → Int → Nat} {i : Int} {q : Path} {j : Int} : 0 < leaveA A i q j ↔ j ≠ i ∧ 0 < A q j := by
  unfold leaveA
  by_cases e : j = i
  · rw [if_pos e]; simp [e]
  · rw [if_neg e]; simp [e]
theorem who_leave {A : Path → Int → Nat} {s : List UInt8} {ids : List Int} (h : Who A s ids) (i : Int) : Who (leaveA A i) s (ids.filter fun x => decide (x ≠ i)) := by
  refine ⟨List.Pairwise.filter _ h.1, fun j => ?_⟩
  rw [List.mem_filter, h.2]
  constructor
  · rintro ⟨⟨h1, q, h2, h3⟩, h4⟩
    exact ⟨h1, q, h2, leave_pos.2 ⟨by simpa using h4, h3⟩⟩
  · rintro ⟨h1, q, h2, h3⟩
    obtain ⟨h4, h5⟩ := leave_pos.1 h3
    exact ⟨⟨h1, q, h2, h5⟩, by simpa using h4⟩
theorem his_leave {A : Path → Int → Nat} {i : Int} {fs : List (List UInt8)} (h : His (leaveA A i) i fs) : fs = [] := by
  cases fs with
  | nil => rfl
  | cons f r =>
    have := (h.2 f).1 (by simp)
    rw [leave_at] at this
    omega
theorem some_leave {A : Path → Int → Nat} {i : Int} {fs gs : List (List UInt8)} (h : Some_ A fs) (h' : Some_ (leaveA A i) gs) : gs.length ≤ fs.length :=
  nodup_le (ordered_nodup h'.1) (fun f hf => by
    obtain ⟨j, hj⟩ := (h'.2 f).1 hf
    exact (h.2 f).2 ⟨j, (leave_pos.1 hj).2⟩)
theorem none_left {L : List Path} {A : Path → Int → Nat} {i : Int} (h : ∀ q, q ∈ L ↔ 0 < leaveA A i q i) : L.length = 0 := by
  cases L with
  | nil => rfl
  | cons q r =>
    have := (h q).1 (by simp)
    rw [leave_at] at this
    omega
theorem filter_snoc {xs : List Int} {k : Nat} (hk : k < xs.length) (i : Int) : (xs.take (k + 1)).filter (fun x => decide (x ≠ i)) = (xs.take k).filter (fun x => decide (x ≠ i)) ++ (if xs[k] ≠ i then [xs[k]] else []) := by
  rw [take_snoc hk, List.filter_append]
  congr 1
  by_cases e : xs[k] = i
  · rw [if_neg (by simpa using e)]; simp [e]
  · rw [if_pos e]; simp [e]
theorem OwnI.at {w : World} {base : Nat} {a : Option Addr} {n cap : Nat} {xs : List Int} (h : OwnI w base (.slice a n cap) xs) {k : Nat} (hk : k < xs.length) : ∃ g, a = some ⟨g, 0, none⟩ ∧ cap ≤ maxLen ∧ n ≤ cap ∧ w.cell? ⟨g, k, none⟩ = some (.int .i64 xs[k]) := by
  rcases h.2 with ⟨_, h0⟩ | ⟨g, cap', cur, e, hb, hg, h1, h2, h3, h4⟩
  · rw [h0] at hk; omega
  · cases e
    have := World.ownsRow.cellAt (w := w) (base := base) (e := 3) (size := 1) (g := g) (cap := cap) (n := xs.length) (xs := xs.map (Value.int .i64)) h k (by omega)
    exact ⟨g, rfl, h2, h1, by rw [this, List.getElem?_map, List.getElem?_eq_getElem hk]; rfl⟩

set_option maxHeartbeats 4000000 in
set_option maxRecDepth 100000 in
theorem rleaves_walk (av : Option Addr) (len cap : Nat) (z : Nat → OpV) (id : Int) (s : ByteArray) (w : World) (hz : OpArg w av len cap z) (hi1 : -9223372036854775808 ≤ id) (hi2 : id ≤ 9223372036854775807) (hs : s.size ≤ maxLen) :
    Calls Try.prog 4 #[.slice av len cap, .int .i64 id, .string s] w fun e w' => e = .returned (.bool true) ∧ Kept w w' := by
  unfold maxLen at hs
  have hid : (Lit.int .i64 id).wf = true := WalkArith.wf_i64 ⟨hi1, hi2⟩
  have cc := cut_law av len cap z w hz
  clear hz
  go_enter Try.func4, Try.ntmps4
  go_wp2_with fail
  refine cc.mono ?_
  rintro e w1 ⟨a1, c1, os, rfl, o1, hos, hsm, k1⟩
  have O1 := Lib.hid o1
  have HS := Lib.hid hsm
  clear cc o1 hsm
  go_wp2_with fail
  refine (new_from k1).mono ?_
  rintro e w2 ⟨t, N2, rfl, T2, k2, kk2, _⟩
  have h2 : Hid (Tr w w2 0 t N2 (fun _ _ => 0)) := T2
  have O2 := Lib.hid (O1.out.kept kk2)
  clear T2 kk2 O1 k1
  have ss := cut_size s 150
  simp only [Int.cast_ofNat_Int] at ss
  obtain ⟨S, hS⟩ : ∃ S, s.extract 0 (min (s.size : Int) 150).toNat = S := ⟨_, rfl⟩
  rw [hS] at ss
  have HSS := Lib.hid hS
  clear hS
  go_wp2
  rw [HSS.out]
  go_loopw [9] (fun iv wr => ∃ (k n : Nat) (N : Path → Option Loc) (A : Path → Int → Nat), k ≤ os.length ∧ iv = .int .i64 k ∧ Tr w wr n t N A ∧ n ≤ 9 * k ∧ OwnO wr w.heap.size (.slice a1 os.length c1) os ∧ Kept w wr) (fun iv _ => os.length - (intOf iv).toNat)
  case atStart => exact ⟨0, 0, N2, _, Nat.zero_le _, rfl, h2.out, Nat.le_refl _, O2.out, k2⟩
  case round =>
    obtain ⟨k, n, N, A, hk, rfl, T3, hn3, o3, k3⟩ := hrel
    have HT3 := Lib.hid T3
    have HO3 := Lib.hid o3
    clear T3 o3 h2 O2 k2
    by_cases hlt : k < os.length
    · obtain ⟨g, rfl, hcm, hcl, d0, d1, d2, d3⟩ := HO3.out.at hlt
      have hso := HS.out os[k] (List.getElem_mem hlt)
      unfold maxLen at hcm
      obtain ⟨o, ho⟩ : ∃ o, os[k] = o := ⟨_, rfl⟩
      rw [ho] at d0 d1 d2 d3 hso
      have HSO := Lib.hid hso
      clear ho hso
      go_wp2_with fail
      refine (play_from k3 HT3.out (by omega) o (by have := HSO.out.1; omega) HSO.out.2.2.1).mono ?_
      rintro e w4 ⟨x4, y4, rfl, _, N4, T4, k4, M4⟩
      have HT4 := Lib.hid T4
      have HO4 := Lib.hid (HO3.out.moves HT3.out.tri.trie M4)
      clear T4 M4
      go_wp2
      go_roundw
      case rel => exact ⟨k + 1, n + 9, N4, _, by omega, by go_num, HT4.out, by omega, HO4.out, k4⟩
      case measure => simp [intOf]; omega
    · have hke : k = os.length := by omega
      subst hke
      obtain ⟨i0, hi, hz0, hz1, hz2⟩ := info_parts infoInt
      have Hi := Lib.hid hi
      have Hz0 := Lib.hid hz0
      have Hz1 := Lib.hid hz1
      have Hz2 := Lib.hid hz2
      clear hi hz0 hz1 hz2
      go_wp2_with fail
      refine (match_law2 k3 HT3.out (by omega) S (by omega)).mono ?_
      rintro e w4 ⟨a4, c4, ms, rfl, o4, hw4, k4, kk4, hml⟩
      have HW4 := Lib.hid hw4
      have HT4 := Lib.hid (HT3.out.kept kk4)
      have HI4 := Lib.hid o4
      clear hw4 o4 kk4 HT3 k3
      go_wp2_with fail
      refine (of_law k4 HT4.out (by omega) id hid).mono ?_
      rintro e w5 ⟨a5, c5, gs, rfl, o5, hf5, k5, kk5⟩
      have HF5 := Lib.hid hf5
      have HT5 := Lib.hid (HT4.out.kept kk5)
      have HI5 := Lib.hid (HI4.out.kept kk5)
      clear hf5 o5 kk5 HT4 HI4 k4
      go_wp2_with fail
      refine (all_law k5 HT5.out (by omega)).mono ?_
      rintro e w6 ⟨a6, c6, fs, rfl, o6, hf6, k6, kk6⟩
      have HF6 := Lib.hid hf6
      have HT6 := Lib.hid (HT5.out.kept kk6)
      have HI6 := Lib.hid (HI5.out.kept kk6)
      clear hf6 o6 kk6 HT5 HI5 k5
      go_wp2_with fail
      refine (leave_from k6 HT6.out (by omega) id hid).mono ?_
      rintro e w7 ⟨L, rfl, hL1, hL2, N7, T7, k7, V7⟩
      have hLg := his_len HT6.out.tri hL1 hL2 HF5.out
      rw [hLg]
      have HT7 := Lib.hid T7
      have HI7 := Lib.hid (HI6.out.moves HT6.out.tri.trie V7)
      have hms : ms.length ≤ 9223372036854775807 := by
        rcases HI7.out.2 with ⟨_, h0⟩ | ⟨_, cap, _, e, _, _, h0, h1, _⟩
        · omega
        · unfold maxLen at h1; omega
      clear hL1 hL2 T7 V7 HT6 HI6 k6 hLg
      have HMS := Lib.hid hml
      go_wp2
      go_loopw [14, 15] (fun rv iv wr => ∃ (k : Nat) (a8 : Option Addr) (c8 : Nat), k ≤ ms.length ∧ iv = .int .i64 k ∧ rv = .slice a8 ((ms.take k).filter fun x => decide (x ≠ id)).length c8 ∧ OwnI wr w7.heap.size (.slice a8 ((ms.take k).filter fun x => decide (x ≠ id)).length c8) ((ms.take k).filter fun x => decide (x ≠ id)) ∧ Kept w7 wr) (fun _ iv _ => ms.length - (intOf iv).toNat)
      case atStart =>
        exact ⟨0, _, 0, Nat.zero_le _, rfl, rfl, World.ownsRow_made w7 #[] 0 (Nat.le_refl _) (Nat.zero_le _) rfl, kept_alloc w7 _⟩
      case round =>
        obtain ⟨k, a8, c8, hk, rfl, rfl, o8, kk8⟩ := hrel
        have HO8 := Lib.hid o8
        clear o8
        by_cases hlt : k < ms.length
        · obtain ⟨g, rfl, hcm, hcl, d0⟩ := (HI7.out.kept kk8).at hlt
          unfold maxLen at hcm
          have HFS := Lib.hid (filter_snoc hlt id)
          obtain ⟨x, hx⟩ : ∃ x, ms[k] = x := ⟨_, rfl⟩
          rw [hx] at d0
          have HXX := Lib.hid hx
          clear hx
          by_cases he : x = id
          · have e1 : (x == id) = true := by simp [he]
            have e2 : (x != id) = false := by simp [he]
            have HE := Lib.hid he
            clear he
            have hst : (ms.take (k + 1)).filter (fun x => decide (x ≠ id)) = (ms.take k).filter (fun x => decide (x ≠ id)) := by
              rw [HFS.out, HXX.out, if_neg (by simp [HE.out]), List.append_nil]
            have HST := Lib.hid hst
            clear hst
            go_wp2
            go_roundw
            case rel =>
              (first
                | (refine ⟨k + 1, a8, c8, by omega, by go_num, by rw [HST.out], by rw [HST.out]; exact HO8.out, kk8⟩)
                | (repeat apply Exists.intro
                   refine ⟨?_, rfl⟩
                   exact ⟨k + 1, a8, c8, by omega, by go_num, by rw [HST.out], by rw [HST.out]; exact HO8.out, kk8⟩))
            case measure => simp [intOf]; omega
          · have e1 : (x == id) = false := by simp [he]
            have e2 : (x != id) = true := by simp [he]
            have HE := Lib.hid he
            clear he
            obtain ⟨R, hR⟩ : ∃ R, (ms.take k).filter (fun x => decide (x ≠ id)) = R := ⟨_, rfl⟩
            have hRl : R.length ≤ 1000000 := by
              rw [← hR]
              exact Nat.le_trans (List.length_filter_le _ _) (Nat.le_trans (by simp; omega) HMS.out)
            have hst : (ms.take (k + 1)).filter (fun x => decide (x ≠ id)) = R ++ [x] := by
              rw [HFS.out, HXX.out, if_pos HE.out, hR]
            have HST := Lib.hid hst
            have ho8 := HO8.out
            rw [hR] at ho8
            rw [hR]
            clear hst hR
            go_wp2_with (first
              | (at_builtin; refine wpList_append_own _ rfl _ _ 35 rfl w7.heap.size 3 i0 (.int .i64 0) 1 8 Try.underlying35 Hi.out Hz0.out Hz1.out Hz2.out rfl (by decide) _ _ _ rfl (World.ownsRow.alloc ho8 _) ⟨wr.heap.size, 0, none⟩ 1 1 [.int .i64 x] rfl rfl (one_cellI _ _) (one_oneI _) (by unfold maxLen; omega) (by omega) (by have := kk8.size; simp; omega) ?_; intro v9 w9 ho9 hg9 _
                 obtain ⟨g9, c9, rfl⟩ := ownsRow_succ ho9
                 have kk9 : Kept w7 w9 := (Kept.alloc kk8 _).grown' hg9 (fun j hj => (World.ownsRow.lt ho8 j hj).1)
                 have Ho9 : Hid (OwnI w9 w7.heap.size (.slice (some ⟨g9, 0, none⟩) (R.length + 1) c9) (R ++ [x])) := by
                   show w9.ownsRow _ _ _ _ _ _
                   rw [List.length_append, List.length_singleton, List.map_append, List.map_singleton]
                   exact ho9
                 have HK9 := Lib.hid kk9
                 clear ho9 hg9 kk9
                 go_frame)
              | go_in)
            go_roundw
            case rel =>
              have hl9 : ((ms.take (k + 1)).filter fun x => decide (x ≠ id)).length = R.length + 1 := by rw [HST.out]; simp
              (first
                | (refine ⟨k + 1, _, c9, by omega, by go_num, by rw [hl9], by rw [hl9, HST.out]; exact Ho9.out, HK9.out⟩)
                | (repeat apply Exists.intro
                   refine ⟨?_, rfl⟩
                   exact ⟨k + 1, _, c9, by omega, by go_num, by rw [hl9], by rw [hl9, HST.out]; exact Ho9.out, HK9.out⟩))
            case measure => simp [intOf]; omega
        · have hke : k = ms.length := by omega
          subst hke
          obtain ⟨R, hR⟩ : ∃ R, (ms.take ms.length).filter (fun x => decide (x ≠ id)) = R := ⟨_, rfl⟩
          have HRR : Hid (ms.filter (fun x => decide (x ≠ id)) = R) := by
            show _ = _
            rw [List.take_length] at hR
            exact hR
          have HR8 : Hid (OwnI wr w7.heap.size (.slice a8 R.length c8) R) := by
            have := HO8.out
            rw [hR] at this
            exact this
          rw [hR]
          clear hR
          have k8 := k7.trans kk8
          have HT8 := Lib.hid (HT7.out.kept kk8)
          clear HO8
          go_wp2_with fail
          refine (match_law k8 HT8.out (by omega) S (by omega)).mono ?_
          rintro e w9 ⟨a9, c9, ms9, rfl, o9, hw9, k9, kk9⟩
          have E9 := Lib.hid ((hw9.uniq (who_leave HW4.out id)).trans HRR.out)
          have HT9 := Lib.hid (HT8.out.kept kk9)
          have HR9 := Lib.hid (HR8.out.kept kk9)
          have N9 := Lib.hid o9.nums
          clear hw9 o9 kk9
          go_wp2_with fail
          refine (ints_law k9 N9.out HR9.out.nums E9.out).mono ?_
          rintro e w10 ⟨rfl, k10, kk10⟩
          have HT10 := Lib.hid (HT9.out.kept kk10)
          clear kk10
          go_wp2_with fail
          refine (of_law k10 HT10.out (by omega) id hid).mono ?_
          rintro e w11 ⟨a11, c11, gs11, rfl, o11, hf11, k11, kk11⟩
          have E11 := his_leave hf11
          subst E11
          have HT11 := Lib.hid (HT10.out.kept kk11)
          clear hf11 o11 kk11
          go_wp2_with fail
          refine (all_law k11 HT11.out (by omega)).mono ?_
          rintro e w12 ⟨a12, c12, fs12, rfl, o12, hf12, k12, kk12⟩
          have hle := some_leave HF6.out hf12
          have e12 : decide ((fs12.length : Int) ≤ (fs.length : Int)) = true := by simp; omega
          have HT12 := Lib.hid (HT11.out.kept kk12)
          clear hf12 o12 kk12
          go_wp2_with fail
          refine (leave_from k12 HT12.out (by omega) id hid).mono ?_
          rintro e w13 ⟨L13, rfl, _, hL13, N13, T13, k13, _⟩
          rw [none_left hL13]
          clear T13 hL13
          go_wp2_with fail
          refine (fixed_law k13).mono ?_
          rintro e w14 ⟨rfl, k14⟩
          go_wp2
          go_ret
          exact ⟨rfl, k14⟩
end Go.Proofs.Ytfojmdkpdmmakaa
