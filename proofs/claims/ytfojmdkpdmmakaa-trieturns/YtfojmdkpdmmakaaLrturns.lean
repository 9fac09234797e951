/-
  The walk of the law TrieTurns.
-/
import Derived.Test.YtfojmdkpdmmakaaRlaw2
import Derived.StillTailTactics
import Derived.Deep.RegionHeld3
namespace Go.Proofs.Ytfojmdkpdmmakaa
open Go.ChangeShapes Go.WideShapes Go.ChangeAt Go.RowKit Go.Maps

/-- what one asks for, if one may -/
def one (o : OpV) : List (Path × Int) := if okF o.filter.data.toList o.id = true then [(Tp.lev o.filter.data.toList, o.id)] else []
def prs (os : List OpV) : List (Path × Int) := os.flatMap one
theorem cnt_perm {l l' : List (Path × Int)} (h : l.Perm l') : cnt l = cnt l' := by
  funext q i
  exact h.count_eq (q, i)
theorem add_one (l : List (Path × Int)) (o : OpV) : addA (cnt l) o.filter.data.toList o.id = cnt (one o ++ l) := by
  unfold one
  by_cases h : okF o.filter.data.toList o.id = true
  · rw [if_pos h, add_cnt h]; rfl
  · rw [if_neg h, add_no (by simpa using h)]; rfl
theorem prs_take {os : List OpV} {i : Nat} (h : i < os.length) : prs (os.take (i + 1)) = prs (os.take i) ++ one os[i] := by
  unfold prs
  rw [take_snoc h, List.flatMap_append]
  simp
theorem prs_drop {os : List OpV} {i : Nat} (h : i < os.length) : prs (os.drop i) = one os[i] ++ prs (os.drop (i + 1)) := by
  unfold prs
  rw [List.drop_eq_getElem_cons h, List.flatMap_cons]
theorem turn_a {os : List OpV} {i : Nat} (h : i < os.length) {l : List (Path × Int)} (hl : l.Perm (prs (os.take i))) : (one os[i] ++ l).Perm (prs (os.take (i + 1))) := by
  rw [prs_take h]
  exact (List.Perm.append_left _ hl).trans List.perm_append_comm
theorem turn_b {os : List OpV} {i : Nat} (h : i < os.length) {l : List (Path × Int)} (hl : l.Perm (prs (os.drop (i + 1)))) : (one os[i] ++ l).Perm (prs (os.drop i)) := by
  rw [prs_drop h]
  exact List.Perm.append_left _ hl
/-- asked for once more, and dropped twice -/
theorem turn_c {o : OpV} (hok : okF o.filter.data.toList o.id = true) {l R : List (Path × Int)} (hl : l.Perm (one o ++ R)) :
    dropA (dropA (addA (cnt l) o.filter.data.toList o.id) o.filter.data.toList o.id) o.filter.data.toList o.id = cnt (l.erase (Tp.lev o.filter.data.toList, o.id)) ∧ (l.erase (Tp.lev o.filter.data.toList, o.id)).Perm R := by
  constructor
  · rw [add_cnt hok, drop_cnt hok, List.erase_cons_head, drop_cnt hok]
  · have := hl.erase (Tp.lev o.filter.data.toList, o.id)
    unfold one at this
    rw [if_pos hok, List.singleton_append, List.erase_cons_head] at this
    exact this
theorem cells3 {w w' : World} (k : Kept w w') {g a b c : Nat} {x y z : Value} (h : w.cell? ⟨g, a, none⟩ = some x ∧ w.cell? ⟨g, b, none⟩ = some y ∧ w.cell? ⟨g, c, none⟩ = some z) :
    w'.cell? ⟨g, a, none⟩ = some x ∧ w'.cell? ⟨g, b, none⟩ = some y ∧ w'.cell? ⟨g, c, none⟩ = some z := by
  have hg : g < w.heap.size := World.block_lt_of_cell? w _ h.1
  exact ⟨(Below.cell k (p := ⟨g, a, none⟩) hg).trans h.1, (Below.cell k (p := ⟨g, b, none⟩) hg).trans h.2.1, (Below.cell k (p := ⟨g, c, none⟩) hg).trans h.2.2⟩
theorem row_cells {w : World} {base g n cap : Nat} {os : List OpV} (h : OwnO w base (.slice (some ⟨g, 0, none⟩) n cap) os) {k : Nat} (hk : k < os.length) {o : OpV} (ho : os[k] = o) :
    w.cell? ⟨g, k * 4 + 1, none⟩ = some (.string o.filter) ∧ w.cell? ⟨g, k * 4 + 2, none⟩ = some (.int .i64 o.id) := by
  obtain ⟨g', e, _, _, _, f1, f2, _⟩ := h.at hk
  cases e
  rw [ho] at f1 f2
  exact ⟨f1, f2⟩
theorem addV_ok {A : Path → Int → Nat} {f : List UInt8} {i : Int} (h : okF f i = true) : addV A f i = .tuple #[.int .i64 (A (Tp.lev f) i + 1 : Nat), .int .i64 0] := by unfold addV; rw [if_pos h]
theorem addV_no {A : Path → Int → Nat} {f : List UInt8} {i : Int} (h : okF f i = false) : addV A f i = .tuple #[.int .i64 0, .int .i64 1] := by unfold addV; rw [if_neg (by rw [h]; decide)]

set_option maxHeartbeats 8000000 in
set_option maxRecDepth 100000 in
theorem rturns_walk (av : Option Addr) (len cap : Nat) (z : Nat → OpV) (w : World) (hz : OpArg w av len cap z) :
    Calls Try.prog 3 #[.slice av len cap] w fun e w' => e = .returned (.bool true) ∧ Kept w w' := by
  have cc := cut_law av len cap z w hz
  clear hz
  go_enter Try.func3, Try.ntmps3
  go_wp2_with fail
  refine cc.mono ?_
  rintro e w1 ⟨a1, c1, os, rfl, o1, hos, hsm, k1⟩
  have O1 := Lib.hid o1
  have HS := Lib.hid hsm
  clear cc o1 hsm
  go_wp2_with fail
  refine (new_from k1).mono ?_
  rintro e w2 ⟨ta, N2, rfl, T2, k2, kk2, _⟩
  have HA2 : Hid (Tr w w2 0 ta N2 (cnt [])) := T2
  have O2 := Lib.hid (O1.out.kept kk2)
  clear T2 kk2 O1 k1
  go_wp2_with fail
  refine (new_from k2).mono ?_
  rintro e w3 ⟨tb, M3, rfl, T3, k3, kk3, hnew⟩
  have HB3 : Hid (Tr w w3 0 tb M3 (cnt [])) := T3
  have HA3 := Lib.hid (HA2.out.kept kk3)
  have O3 := Lib.hid (O2.out.kept kk3)
  have HP3 : Hid (Apart N2 M3) := fun i hi hj => by
    have b1 := HA2.out.tri.trie.lt hi
    have b2 := hnew i hj
    omega
  clear T3 kk3 O2 k2 HA2 hnew
  obtain ⟨n, hn⟩ : ∃ n : Nat, n = min os.length 30 := ⟨_, rfl⟩
  have hn1 : n ≤ os.length := by omega
  have hn2 : n ≤ 30 := by omega
  have hmin : min (os.length : Int) 30 = (n : Int) := by omega
  clear hn
  go_wp2
  try rw [hmin]
  go_loopw [7] (fun iv wr => ∃ (k na nb : Nat) (N M : Path → Option Loc) (la lb : List (Path × Int)), k ≤ n ∧ iv = .int .i64 k ∧ Tr w wr na ta N (cnt la) ∧ Tr w wr nb tb M (cnt lb) ∧ Apart N M ∧ na ≤ 9 * k ∧ nb ≤ 9 * k ∧ la.Perm (prs ((os.take n).take k)) ∧ lb.Perm (prs ((os.take n).drop (n - k))) ∧ OwnO wr w.heap.size (.slice a1 os.length c1) os ∧ Kept w wr) (fun iv _ => n - (intOf iv).toNat)
  case atStart => exact ⟨0, 0, 0, N2, M3, [], [], Nat.zero_le _, rfl, HA3.out, HB3.out, HP3.out, Nat.le_refl _, Nat.le_refl _, List.Perm.refl _, by rw [Nat.sub_zero, List.drop_of_length_le (by simp; omega)]; exact List.Perm.refl _, O3.out, k3⟩
  case round =>
    obtain ⟨k, na, nb, N, M, la, lb, hk, rfl, TA, TB, AP, hna, hnb, PA, PB, o4, k4⟩ := hrel
    have HTA := Lib.hid TA
    have HTB := Lib.hid TB
    have HAP := Lib.hid AP
    have HPA := Lib.hid PA
    have HPB := Lib.hid PB
    have HO4 := Lib.hid o4
    clear TA TB AP PA PB o4 HA3 HB3 HP3 O3 k3
    have hlen : (os.take n).length = n := by simp; omega
    by_cases hlt : k < n
    · obtain ⟨j, hj⟩ : ∃ j, j = n - 1 - k := ⟨_, rfl⟩
      have hkl : k < os.length := by omega
      have hjl : j < os.length := by omega
      have hidx : ((n : Int) - 1 - (k : Int)) = (j : Int) := by omega
      have hjn : n - (k + 1) = j := by omega
      have hjn2 : j + 1 = n - k := by omega
      obtain ⟨g, rfl, hcm, hcl, d0, d1, d2, d3⟩ := HO4.out.at hkl
      have hso := HS.out os[k] (List.getElem_mem hkl)
      have hsp := HS.out os[j] (List.getElem_mem hjl)
      unfold maxLen at hcm
      have TA2 := turn_a (os := os.take n) (i := k) (by omega) HPA.out
      have TB2 := turn_b (os := os.take n) (i := j) (by omega) (l := lb) (by rw [hjn2]; exact HPB.out)
      rw [List.getElem_take] at TA2 TB2
      obtain ⟨o, ho⟩ : ∃ o, os[k] = o := ⟨_, rfl⟩
      obtain ⟨p, hp⟩ : ∃ p, os[j] = p := ⟨_, rfl⟩
      rw [ho] at d1 d2 hso TA2
      rw [hp] at hsp TB2
      have HSO := Lib.hid hso
      have HSP := Lib.hid hsp
      have HTA2 := Lib.hid TA2
      have HTB2 := Lib.hid TB2
      have HPE := Lib.hid hp
      have HJN := Lib.hid hjn
      clear ho hp hso hsp TA2 TB2 d0 d3 hj hjn hjn2
      go_wp2_with fail
      go_still_tail 11, (by kernel_rfl)
      change wpList _ _ _ _ _ wr.drew
      have kd : Kept wr wr.drew := Kept.drew (Kept.refl wr)
      have ca := add_from (k4.trans kd) (HTA.out.kept kd) (by omega) o.filter (by have := HSO.out.1; omega) o.id HSO.out.2.2.1
      rw [add_one] at ca
      have HKD := Lib.hid kd
      clear kd
      go_wp2_with fail
      refine ca.mono ?_
      rintro e w5 ⟨rfl, N5, TA5, k5, V5⟩
      have HTA5 := Lib.hid TA5
      have HTB5 : Hid (Tr w w5 nb tb M (cnt lb)) := ⟨(HTB.out.kept HKD.out).tri.other (HTA.out.kept HKD.out).tri HAP.out V5, HTB.out.own⟩
      have HO5 := Lib.hid ((HO4.out.kept HKD.out).moves (HTA.out.kept HKD.out).tri.trie V5)
      have HAP5 := Lib.hid (HAP.out.moves V5 (HTB.out.kept HKD.out).tri.trie)
      obtain ⟨g', eg, _, _, f0, f1, f2, f3⟩ := HO5.out.at hjl
      cases eg
      rw [HPE.out] at f1 f2
      have hw1 : IntKind.i64.wrap ((n : Int) - 1) = (n : Int) - 1 := by rw [IntKind.wrap_i64]; omega
      have hw2 : IntKind.i64.wrap ((n : Int) - 1 - (k : Int)) = (j : Int) := by rw [IntKind.wrap_i64]; omega
      clear TA5 V5 ca f0 f3 d1 d2 hidx
      go_wp2_with fail
      go_still_tail 17, (by kernel_rfl)
      change wpList _ _ _ _ _ w5.drew
      have kd : Kept w5 w5.drew := Kept.drew (Kept.refl w5)
      have cb := add_from (k5.trans kd) (HTB5.out.kept kd) (by omega) p.filter (by have := HSP.out.1; omega) p.id HSP.out.2.2.1
      rw [add_one] at cb
      have HKD5 := Lib.hid kd
      clear kd
      go_wp2_with fail
      refine cb.mono ?_
      rintro e w6 ⟨rfl, M6, TB6, k6, V6⟩
      have HTB6 := Lib.hid TB6
      have HTA6 : Hid (Tr w w6 (na + 9) ta N5 (cnt (one o ++ la))) := ⟨(HTA5.out.kept HKD5.out).tri.other (HTB5.out.kept HKD5.out).tri HAP5.out.symm V6, HTA5.out.own⟩
      have HO6 := Lib.hid ((HO5.out.kept HKD5.out).moves (HTB5.out.kept HKD5.out).tri.trie V6)
      have HAP6 := Lib.hid (HAP5.out.symm.moves V6 (HTA5.out.kept HKD5.out).tri.trie).symm
      clear TB6 V6 cb f1 f2
      go_wp2
      go_roundw
      case rel => exact ⟨k + 1, na + 9, nb + 9, N5, M6, _, _, by omega, by go_num, HTA6.out, HTB6.out, HAP6.out, by omega, by omega, HTA2.out, by rw [HJN.out]; exact HTB2.out, HO6.out, k6⟩
      case measure => simp [intOf]; omega
    · have hke : k = n := by omega
      subst hke
      have eA : cnt la = cnt (prs (os.take k)) := by
        refine cnt_perm ?_
        have := HPA.out
        rwa [List.take_of_length_le (by omega)] at this
      have eB : cnt lb = cnt (prs (os.take k)) := by
        refine cnt_perm ?_
        have := HPB.out
        rwa [Nat.sub_self, List.drop_zero] at this
      have XA := HTA.out
      have XB := HTB.out
      rw [eA] at XA
      rw [eB] at XB
      have HXA := Lib.hid XA
      have HXB := Lib.hid XB
      clear XA XB eA eB HPA HPB HTA HTB
      obtain ⟨P0, hP0⟩ : ∃ P0, prs (os.take k) = P0 := ⟨_, rfl⟩
      rw [hP0] at HXA HXB
      have HPR0 := Lib.hid hP0
      clear hP0
      go_wp2_with fail
      refine (all_law k4 HXA.out (by omega)).mono ?_
      rintro e w5 ⟨a5, c5, fs5, rfl, o5, hf5, k5, kk5⟩
      have HA5 := Lib.hid (HXA.out.kept kk5)
      have HB5 := Lib.hid (HXB.out.kept kk5)
      have HO5 := Lib.hid (HO4.out.kept kk5)
      have HF5 := Lib.hid hf5
      have HQ5 := Lib.hid o5
      clear o5 hf5 kk5 HXA HXB HO4 k4
      go_wp2_with fail
      refine (all_law k5 HB5.out (by omega)).mono ?_
      rintro e w6 ⟨a6, c6, fs6, rfl, o6, hf6, k6, kk6⟩
      have HA6 := Lib.hid (HA5.out.kept kk6)
      have HB6 := Lib.hid (HB5.out.kept kk6)
      have HO6 := Lib.hid (HO5.out.kept kk6)
      have HQ6 := Lib.hid (HQ5.out.kept kk6)
      have HE6 := Lib.hid (HF5.out.uniq hf6)
      have HR6 := Lib.hid o6
      clear o6 hf6 kk6 HA5 HB5 HO5 HQ5 k5
      go_wp2_with fail
      refine (same_law k6 (OwnS.strs HQ6.out) (OwnS.strs HR6.out) HE6.out).mono ?_
      rintro e w7 ⟨rfl, k7, kk7⟩
      have HA7 := Lib.hid (HA6.out.kept kk7)
      have HB7 := Lib.hid (HB6.out.kept kk7)
      have HO7 := Lib.hid (HO6.out.kept kk7)
      clear kk7 HA6 HB6 HO6 HQ6 HR6 k6
      go_wp2
      go_loopw [8] (fun iv wr => ∃ (j : Nat), j ≤ k ∧ iv = .int .i64 j ∧ Tr w wr na ta N (cnt P0) ∧ Tr w wr nb tb M (cnt P0) ∧ OwnO wr w.heap.size (.slice a1 os.length c1) os ∧ Kept w wr) (fun iv _ => k - (intOf iv).toNat)
      case atStart => exact ⟨0, Nat.zero_le _, rfl, HA7.out, HB7.out, HO7.out, k7⟩
      case round =>
        obtain ⟨j, hj, rfl, TA, TB, o8, k8⟩ := hrel
        have HA8 := Lib.hid TA
        have HB8 := Lib.hid TB
        have HO8 := Lib.hid o8
        clear TA TB o8 HA7 HB7 HO7 k7
        by_cases hlt : j < k
        · have hjl : j < os.length := by omega
          obtain ⟨g, rfl, hcm, hcl, d0, d1, d2, d3⟩ := HO8.out.at hjl
          have hso := HS.out os[j] (List.getElem_mem hjl)
          unfold maxLen at hcm
          obtain ⟨o, ho⟩ : ∃ o, os[j] = o := ⟨_, rfl⟩
          rw [ho] at d1 d2 d3 hso
          obtain ⟨of, oi, ot, hof⟩ : ∃ of oi ot, o.filter = of ∧ o.id = oi ∧ o.topic = ot := ⟨_, _, _, rfl, rfl, rfl⟩
          obtain ⟨e1, e2, e3⟩ := hof
          rw [e1] at d1
          rw [e2] at d2
          rw [e3] at d3
          have hsf : of.size ≤ 150 := by rw [← e1]; exact hso.1
          have hst : ot.size ≤ 150 := by rw [← e3]; exact hso.2.1
          have hsi : (Lit.int .i64 oi).wf = true := by rw [← e2]; exact hso.2.2.1
          clear ho hso e1 e2 e3 d0
          have HKD := Lib.hid (Kept.drew (Kept.refl wr))
          have s8 : wr.drew.cell? ⟨g, j * 4 + 1, none⟩ = some (.string of) ∧ wr.drew.cell? ⟨g, j * 4 + 2, none⟩ = some (.int .i64 oi) ∧ wr.drew.cell? ⟨g, j * 4 + 3, none⟩ = some (.string ot) := ⟨d1, d2, d3⟩
          obtain ⟨cv, hcv⟩ : ∃ cv, cnt P0 (Tp.lev of.data.toList) oi = cv := ⟨_, rfl⟩
          have HCV := Lib.hid hcv
          clear hcv
          have enn : ((cv : Int) != (cv : Int)) = false := by simp
          have tok1 : True := trivial
          have tok2 : True := trivial
          have tok3 : True := trivial
          have tok4 : True := trivial
          go_wp2_with fail
          go_region_held3 (fun w' => w'.cell? ⟨g, j * 4 + 1, none⟩ = some (.string of) ∧ w'.cell? ⟨g, j * 4 + 2, none⟩ = some (.int .i64 oi) ∧ w'.cell? ⟨g, j * 4 + 3, none⟩ = some (.string ot)) (first | exact s8 | exact s9 | exact s10 | exact s11 | exact s12 | exact s13)
            (first
              | (go_at_call 14; have _t := tok1; refine (match_law (k8.trans HKD.out) (HA8.out.kept HKD.out) (by omega) ot (by omega)).mono ?_; rintro e w9 ⟨a9, c9, m9, rfl, o9, hw9, k9, kk9⟩
                 have s9 := cells3 kk9 s8
                 have HK9 := Lib.hid (HKD.out.trans kk9)
                 have HI9 := Lib.hid o9
                 have HW9 := Lib.hid hw9
                 clear o9 hw9 kk9 tok1 _t)
              | (go_at_call 14; have _t := tok2; refine (match_law k9 (HB8.out.kept HK9.out) (by omega) ot (by omega)).mono ?_; rintro e w10 ⟨a10, c10, m10, rfl, o10, hw10, k10, kk10⟩
                 have s10 := cells3 kk10 s9
                 have HK10 := Lib.hid (HK9.out.trans kk10)
                 have HI10 := Lib.hid (HI9.out.kept kk10)
                 have HJ10 := Lib.hid o10
                 have HE10 := Lib.hid (HW9.out.uniq hw10)
                 clear o10 hw10 kk10 tok2 _t)
              | (go_at_call 13; refine (ints_law k10 HI10.out.nums HJ10.out.nums HE10.out).mono ?_; rintro e w11 ⟨rfl, k11, kk11⟩
                 have s11 := cells3 kk11 s10
                 have HK11 := Lib.hid (HK10.out.trans kk11)
                 clear kk11)
              | (go_at_call 15; have _t := tok3; refine (has_from k11 (HA8.out.kept HK11.out) of (by omega) oi hsi cv HCV.out).mono ?_; rintro e w12 ⟨rfl, k12, kk12⟩
                 have s12 := cells3 kk12 s11
                 have HK12 := Lib.hid (HK11.out.trans kk12)
                 clear kk12 tok3 _t)
              | (go_at_call 15; have _t := tok4; refine (has_from k12 (HB8.out.kept HK12.out) of (by omega) oi hsi cv HCV.out).mono ?_; rintro e w13 ⟨rfl, k13, kk13⟩
                 have s13 := cells3 kk13 s12
                 have HK13 := Lib.hid (HK12.out.trans kk13)
                 clear kk13 tok4 _t))
          go_wp2
          go_roundw
          case rel => exact ⟨j + 1, by omega, by go_num, HA8.out.kept HK13.out, HB8.out.kept HK13.out, HO8.out.kept HK13.out, k13⟩
          case measure => simp [intOf]; omega
        · have HPR := Lib.hid HPR0.out
          go_wp2
          go_loopw [9] (fun iv wr => ∃ (j n9 : Nat) (N9 : Path → Option Loc) (l9 : List (Path × Int)), j ≤ k ∧ iv = .int .i64 j ∧ Tr w wr n9 ta N9 (cnt l9) ∧ n9 ≤ na + 11 * j ∧ l9.Perm (prs ((os.take k).drop j)) ∧ OwnO wr w.heap.size (.slice a1 os.length c1) os ∧ Kept w wr) (fun iv _ => k - (intOf iv).toNat)
          case atStart => exact ⟨0, na, N, P0, Nat.zero_le _, rfl, HA8.out, by omega, by rw [List.drop_zero, HPR.out], HO8.out, k8⟩
          case round =>
            obtain ⟨j, n9, N9, l9, hj, rfl, T9, hn9, P9, o9, k9⟩ := hrel
            have HA9 := Lib.hid T9
            have HP9 := Lib.hid P9
            have HO9 := Lib.hid o9
            clear T9 P9 o9 HA8 HB8 HO8 k8
            by_cases hlt : j < k
            · have hjl : j < os.length := by omega
              obtain ⟨g, rfl, hcm, hcl, d0, d1, d2, d3⟩ := HO9.out.at hjl
              have hso := HS.out os[j] (List.getElem_mem hjl)
              unfold maxLen at hcm
              have hpd := prs_drop (os := os.take k) (i := j) (by rw [hlen]; exact hlt)
              rw [List.getElem_take] at hpd
              obtain ⟨o, ho⟩ : ∃ o, os[j] = o := ⟨_, rfl⟩
              rw [ho] at d1 d2 hso hpd
              have HPD : Hid (l9.Perm (one o ++ prs ((os.take k).drop (j + 1)))) := by
                show List.Perm _ _
                rw [← hpd]
                exact HP9.out
              have HOE := Lib.hid ho
              have HSO := Lib.hid hso
              clear ho hso hpd d0 d3
              have kd : Kept wr wr.drew := Kept.drew (Kept.refl wr)
              have ca := add_from (k9.trans kd) (HA9.out.kept kd) (by omega) o.filter (by have := HSO.out.1; omega) o.id HSO.out.2.2.1
              have HKD := Lib.hid kd
              have s9 : wr.drew.cell? ⟨g, j * 4 + 1, none⟩ = some (.string o.filter) ∧ wr.drew.cell? ⟨g, j * 4 + 2, none⟩ = some (.int .i64 o.id) := ⟨d1, d2⟩
              clear kd d1 d2
              cases hok : okF o.filter.data.toList o.id
              · rw [addV_no hok, add_no hok] at ca
                have HP10 : Hid (l9.Perm (prs ((os.take k).drop (j + 1)))) := by
                  have := HPD.out
                  unfold one at this
                  rw [hok] at this
                  show List.Perm _ _
                  simpa using this
                clear hok
                go_wp2_with fail
                go_region_held3 (fun w' => w'.cell? ⟨g, j * 4 + 1, none⟩ = some (.string o.filter) ∧ w'.cell? ⟨g, j * 4 + 2, none⟩ = some (.int .i64 o.id)) (first | exact s9 | exact s10)
                  (first
                    | (go_at_call 10; refine ca.mono ?_; rintro e w10 ⟨rfl, N10, T10, k10, V10⟩
                       have HA10 := Lib.hid T10
                       have HO10 := Lib.hid ((HO9.out.kept HKD.out).moves (HA9.out.kept HKD.out).tri.trie V10)
                       have s10 := row_cells HO10.out hjl HOE.out
                       clear T10 V10 ca))
                go_wp2
                go_roundw
                case rel =>
                  (first
                    | exact ⟨j + 1, n9 + 9, N10, l9, by omega, by go_num, HA10.out, by omega, HP10.out, HO10.out, k10⟩
                    | (repeat apply Exists.intro
                       refine ⟨?_, rfl⟩
                       exact ⟨j + 1, n9 + 9, N10, l9, by omega, by go_num, HA10.out, by omega, HP10.out, HO10.out, k10⟩))
                case measure => simp [intOf]; omega
              · rw [addV_ok hok] at ca
                obtain ⟨TC1, TC2⟩ := turn_c hok HPD.out
                have HTC1 := Lib.hid TC1
                have HTC2 := Lib.hid TC2
                clear TC1 TC2 hok
                go_wp2_with fail
                go_region_held3 (fun w' => w'.cell? ⟨g, j * 4 + 1, none⟩ = some (.string o.filter) ∧ w'.cell? ⟨g, j * 4 + 2, none⟩ = some (.int .i64 o.id)) (first | exact s9 | exact s10)
                  (first
                    | (go_at_call 10; refine ca.mono ?_; rintro e w10 ⟨rfl, N10, T10, k10, V10⟩
                       have HA10 := Lib.hid T10
                       have HO10 := Lib.hid ((HO9.out.kept HKD.out).moves (HA9.out.kept HKD.out).tri.trie V10)
                       have s10 := row_cells HO10.out hjl HOE.out
                       clear T10 V10 ca))
                obtain ⟨f1, f2⟩ := s10
                clear s9
                go_wp2_with fail
                go_still_tail 11, (by kernel_rfl)
                change wpList _ _ _ _ _ w10.drew
                have kd : Kept w10 w10.drew := Kept.drew (Kept.refl w10)
                have cd := drop_from1 (k10.trans kd) (HA10.out.kept kd) (by omega) o.filter (by have := HSO.out.1; omega) o.id HSO.out.2.2.1
                have HKD2 := Lib.hid kd
                clear kd f1 f2
                go_wp2_with fail
                refine cd.mono ?_
                rintro e w11 ⟨rfl, N11, T11, k11, V11⟩
                have HA11 := Lib.hid T11
                have HO11 := Lib.hid ((HO10.out.kept HKD2.out).moves (HA10.out.kept HKD2.out).tri.trie V11)
                obtain ⟨g', eg, _, _, f0, f1, f2, f3⟩ := HO11.out.at hjl
                cases eg
                rw [HOE.out] at f1 f2
                clear T11 V11 cd f0 f3
                go_wp2_with fail
                go_still_tail 11, (by kernel_rfl)
                change wpList _ _ _ _ _ w11.drew
                have kd : Kept w11 w11.drew := Kept.drew (Kept.refl w11)
                have ce := drop_from1 (k11.trans kd) (HA11.out.kept kd) (by omega) o.filter (by have := HSO.out.1; omega) o.id HSO.out.2.2.1
                have HKD3 := Lib.hid kd
                clear kd f1 f2
                go_wp2_with fail
                refine ce.mono ?_
                rintro e w12 ⟨rfl, N12, T12, k12, V12⟩
                rw [HTC1.out] at T12
                have HA12 := Lib.hid T12
                have HO12 := Lib.hid ((HO11.out.kept HKD3.out).moves (HA11.out.kept HKD3.out).tri.trie V12)
                clear T12 V12 ce
                go_wp2
                go_roundw
                case rel =>
                  (first
                    | exact ⟨j + 1, n9 + 9 + 1 + 1, N12, _, by omega, by go_num, HA12.out, by omega, HTC2.out, HO12.out, k12⟩
                    | (repeat apply Exists.intro
                       refine ⟨?_, rfl⟩
                       exact ⟨j + 1, n9 + 9 + 1 + 1, N12, _, by omega, by go_num, HA12.out, by omega, HTC2.out, HO12.out, k12⟩))
                case measure => simp [intOf]; omega
            · have hke : j = k := by omega
              subst hke
              have hnil : l9 = [] := by
                have := HP9.out
                rw [List.drop_of_length_le (by omega)] at this
                exact List.Perm.eq_nil this
              have X9 := HA9.out
              rw [hnil] at X9
              have HX9 := Lib.hid X9
              clear X9 hnil HA9 HP9
              go_wp2_with fail
              refine (all_from k9 HX9.out (by omega) [] (by simp [Ordered]) (fun f => by simp [cnt])).mono ?_
              rintro e w10 ⟨a10, c10, rfl, o10, k10, kk10⟩
              have HX10 := Lib.hid (HX9.out.kept kk10)
              clear o10 kk10
              go_wp2_with fail
              refine (match_from k10 HX10.out (by omega) ⟨#[97]⟩ (by decide) [] ⟨List.Pairwise.nil, fun i => by simp [cnt]⟩).mono ?_
              rintro e w11 ⟨a11, c11, rfl, o11, k11, kk11⟩
              clear o11 kk11
              go_wp2_with fail
              refine (fixed_law k11).mono ?_
              rintro e w12 ⟨rfl, k12⟩
              go_wp2
              go_ret
              exact ⟨rfl, k12⟩
end Go.Proofs.Ytfojmdkpdmmakaa
