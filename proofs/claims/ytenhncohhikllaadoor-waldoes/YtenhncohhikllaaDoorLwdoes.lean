/-
  The walk of the law WalDoes.
-/
import Derived.Test.YtenhncohhikllaaDoorWdoes
import Derived.Deep.RegionHeld3
namespace Go.Proofs.YtenhncohhikllaaDoor
open Go.ChangeShapes Go.WideShapes Go.ChangeAt Go.RowKit

set_option maxHeartbeats 8000000 in
set_option maxRecDepth 100000 in
theorem wdoes_walk (av : Option Addr) (len cap : Nat) (z : Nat → OpV) (w : World) (hz : OpArg w av len cap z) (hT : Tab w) :
    Calls Tryd.prog 3 #[.slice av len cap] w fun e w' => e = .returned (.bool true) ∧ Kept w w' := by
  go_enter Tryd.func3, Tryd.ntmps3
  go_wp2_with fail
  refine (law_cut av len cap z w hz).mono ?_
  rintro e w1 ⟨a, c, os, rfl, ho, hn, hos, k1⟩
  have HO := Lib.hid ho
  have KW := Lib.hid k1
  have HT := Lib.hid (hT.kept k1)
  have HOS := Lib.hid hos
  clear ho k1 hT hos hz
  go_wp2_with fail
  refine (new_disk _).mono ?_
  rintro e w2 ⟨rfl, x2, k2⟩
  obtain ⟨base, hbase⟩ : ∃ base, base = w1.heap.size := ⟨_, rfl⟩
  rw [← hbase] at x2 ⊢
  obtain ⟨d, hd⟩ : ∃ d, d = base := ⟨_, rfl⟩
  have x2 : Dsk w2 base d (fun _ => ⟨#[]⟩) (.slice none 0 0) [] := by rw [hd]; exact x2
  rw [show (Value.pointer (some ⟨base, 0, none⟩)) = .pointer (some ⟨d, 0, none⟩) by rw [hd]]
  have HB : Hid (w1.heap.size ≤ base) := by show _ ≤ _; omega
  have ka : Kept w2 (w2.alloc (.cells (rcells (fun _ => ⟨#[]⟩) (.slice none 0 0)) 30)) := (Kept.refl w2).alloc _
  have I2 : Hid (Fresh w1 (w2.alloc (.cells (rcells (fun _ => ⟨#[]⟩) (.slice none 0 0)) 30)) base d w2.heap.size 0) :=
    Lib.hid ⟨_, _, x2.kept ka, (rd_new w2).mono (by rw [hbase]; exact k2.size), Dsp.new, k2.trans ka⟩
  clear x2 k2 hd hbase ka
  have er : rcells (fun _ => ⟨#[]⟩) (.slice none 0 0) = #[.string ⟨#[]⟩, .string ⟨#[]⟩, .string ⟨#[]⟩, .string ⟨#[]⟩, .slice none 0 0] := rfl
  rw [er] at I2
  clear er
  generalize hrd : w2.heap.size = rd at I2
  go_wp2_with fail
  clear hrd
  generalize w2.alloc (.cells #[.string ⟨#[]⟩, .string ⟨#[]⟩, .string ⟨#[]⟩, .string ⟨#[]⟩, .slice none 0 0] 30) = w3 at I2 ⊢
  refine (fresh_open w3 I2.out HT.out HB.out).mono ?_
  rintro e w4 ⟨b, rfl, i4⟩
  have I4 := Lib.hid i4
  clear i4 I2
  go_wp2_with fail
  refine (mid_open w4 I4.out HB.out).mono ?_
  rintro e w5 ⟨rb, rfl, i5⟩
  have I5 := Lib.hid i5
  clear i5 I4
  obtain ⟨n, hnn⟩ : ∃ n, n = os.length := ⟨_, rfl⟩
  rw [← hnn] at hn HO ⊢
  have HN := Lib.hid hnn
  clear hnn
  go_wp2
  go_loopw [6, 7, 8, 9, 10] (fun lv ev rv fv iv wr => ∃ b rb k : Nat, k ≤ n ∧ lv = .pointer (some ⟨b, 0, none⟩) ∧ ev = .int .i64 0 ∧ rv = .pointer (some ⟨rb, 0, none⟩) ∧ fv = .int .i64 0 ∧ iv = .int .i64 k ∧ Hid (Both w1 wr base b d rb rd k)) (fun _ _ _ _ iv _ => n - (intOf iv).toNat)
  case atStart => exact ⟨b, rb, 0, Nat.zero_le _, rfl, rfl, rfl, rfl, rfl, I5⟩
  case round =>
    clear I5
    obtain ⟨b, rb, k, hk, rfl, rfl, rfl, rfl, rfl, hI⟩ := hrel
    rename_i wr
    by_cases hlt : k < n
    · have hkl : k < os.length := by rw [← HN.out]; exact hlt
      obtain ⟨q1, q2, g, rfl, e0, e1, e2⟩ := HO.out.at hI.out.k1 hkl
      have ho' := HOS.out _ (List.getElem_mem hkl)
      have hCELL : ∀ w', Kept w1 w' → w'.cell? ⟨g, k * 3, none⟩ = some (.int .i64 os[k].kind) ∧ w'.cell? ⟨g, k * 3 + 1, none⟩ = some (.string os[k].s) ∧ w'.cell? ⟨g, k * 3 + 2, none⟩ = some (.int .i64 os[k].n) := fun w' q => by
        obtain ⟨_, _, g', hg', r0, r1, r2⟩ := HO.out.at q hkl
        cases hg'
        exact ⟨r0, r1, r2⟩
      unfold maxLen at q2
      generalize os[k] = o at e0 e1 e2 ho' hCELL
      obtain ⟨kd, s, mm⟩ := o
      simp only at e0 e1 e2 ho' hCELL
      obtain ⟨hsz, hm0, hm1⟩ := ho'
      have CELL := Lib.hid hCELL
      clear hCELL e0 e1 e2
      have hk40 : k ≤ 40 := by omega
      go_wp2_with fail
      refine (both_same wr hI.out).mono ?_
      rintro e wa ⟨rfl, qa⟩
      have IA := Lib.hid (hI.out.kept qa)
      clear qa hI
      obtain ⟨e0, e1, e2⟩ := CELL.out wa IA.out.k1
      have k3 : k * 3 + 1 + 1 = k * 3 + 2 := rfl
      have ki : (k : Int) < (n : Int) := by omega
      have ki0 : (0 : Int) ≤ k := by omega
      by_cases hk0 : kd = 0
      · subst hk0
        have k0 : ((0 : Int) == 0) = true := rfl
        have C1 := Lib.hid fun w' (q : Kept wa w') => both_app s w' (IA.out.kept q) hsz hk40 HT.out HB.out
        have C2 := Lib.hid fun w' (q : MidA s w1 w' base b d rb rd k) => mid_app s w' q hsz hk40 HB.out
        have KS : Hid (∀ w', Kept wa w' → w'.cell? ⟨g, k * 3 + 1, none⟩ = some (.string s)) := Lib.hid fun w' q => (CELL.out w' (IA.out.k1.trans q)).2.1
        have KS2 : Hid (∀ w', MidA s w1 w' base b d rb rd k → w'.cell? ⟨g, k * 3 + 1, none⟩ = some (.string s)) := Lib.hid fun w' q => (CELL.out w' q.k1).2.1
        have KS3 : Hid (∀ w', Both w1 w' base b d rb rd (k + 1) → w'.cell? ⟨g, k * 3 + 1, none⟩ = some (.string s)) := Lib.hid fun w' q => (CELL.out w' q.k1).2.1
        clear IA
        go_wp2_with fail
        go_region_held3 (fun w' => w'.cell? ⟨g, k * 3 + 1, none⟩ = some (.string s))
          (first | exact KS.out _ (Kept.refl _).drew | exact KS2.out _ xA | exact KS3.out _ xB)
          (first
            | (go_at_call 14; (with_reducible refine (C1.out _ (Kept.refl _).drew).mono ?_); rintro e wA ⟨rfl, xA⟩)
            | (go_at_call 15; (with_reducible refine (C2.out _ xA).mono ?_); rintro e wB ⟨rfl, xB⟩))
        clear C1 C2 KS KS2 KS3
        have IB := Lib.hid xB
        clear xA xB
        go_wp2
        go_roundw
        case rel => exact ⟨b, rb, k + 1, by omega, rfl, rfl, rfl, rfl, by go_num, IB⟩
        case measure => simp [intOf]; omega
      · have k0 : (kd == 0) = false := by rw [beq_eq_false_iff_ne]; exact hk0
        by_cases hk1 : kd = 1
        · subst hk1
          have k1 : ((1 : Int) == 1) = true := rfl
          have C1 := Lib.hid fun w' (q : Kept wa w') => both_chk s w' (IA.out.kept q) hsz hk40 HT.out HB.out
          have C2 := Lib.hid fun w' (q : MidC s w1 w' base b d rb rd k) => mid_chk s w' q hsz hk40 HB.out
          have KS : Hid (∀ w', Kept wa w' → w'.cell? ⟨g, k * 3 + 1, none⟩ = some (.string s)) := Lib.hid fun w' q => (CELL.out w' (IA.out.k1.trans q)).2.1
          have KS2 : Hid (∀ w', MidC s w1 w' base b d rb rd k → w'.cell? ⟨g, k * 3 + 1, none⟩ = some (.string s)) := Lib.hid fun w' q => (CELL.out w' q.k1).2.1
          have KS3 : Hid (∀ w', Both w1 w' base b d rb rd (k + 1) → w'.cell? ⟨g, k * 3 + 1, none⟩ = some (.string s)) := Lib.hid fun w' q => (CELL.out w' q.k1).2.1
          clear IA
          go_wp2_with fail
          go_region_held3 (fun w' => w'.cell? ⟨g, k * 3 + 1, none⟩ = some (.string s))
            (first | exact KS.out _ (Kept.refl _).drew | exact KS2.out _ xA | exact KS3.out _ xB)
            (first
              | (go_at_call 16; (with_reducible refine (C1.out _ (Kept.refl _).drew).mono ?_); rintro e wA ⟨rfl, xA⟩)
              | (go_at_call 17; (with_reducible refine (C2.out _ xA).mono ?_); rintro e wB ⟨rfl, xB⟩))
          clear C1 C2 KS KS2 KS3
          have IB := Lib.hid xB
          clear xA xB
          go_wp2
          go_roundw
          case rel => exact ⟨b, rb, k + 1, by omega, rfl, rfl, rfl, rfl, by go_num, IB⟩
          case measure => simp [intOf]; omega
        · have k1 : (kd == 1) = false := by rw [beq_eq_false_iff_ne]; exact hk1
          by_cases hk2 : kd = 2
          · subst hk2
            have k2 : ((2 : Int) == 2) = true := rfl
            go_wp2_with fail
            refine (both_sync wa IA.out HB.out).mono ?_
            rintro e wb ⟨rfl, i⟩
            have I1 := Lib.hid i
            clear i IA
            go_wp2_with fail
            refine (mid_sync wb I1.out HB.out).mono ?_
            rintro e wc ⟨rfl, i⟩
            have I2 := Lib.hid i
            clear i I1
            go_wp2
            go_roundw
            case rel => exact ⟨b, rb, k + 1, by omega, rfl, rfl, rfl, rfl, by go_num, I2⟩
            case measure => simp [intOf]; omega
          · have k2 : (kd == 2) = false := by rw [beq_eq_false_iff_ne]; exact hk2
            by_cases hk4 : kd = 4
            · subst hk4
              have k4 : ((4 : Int) == 4) = true := rfl
              go_wp2_with fail
              refine (both_spoil s wa IA.out hsz hk40 HB.out).mono ?_
              rintro e wb ⟨rfl, i⟩
              obtain ⟨e0, e1, e2⟩ := CELL.out wb i.k1
              have I1 := Lib.hid i
              clear i IA
              go_wp2_with fail
              refine (mid_spoil s wb I1.out hsz hk40 HB.out).mono ?_
              rintro e wc ⟨rfl, i⟩
              obtain ⟨e0, e1, e2⟩ := CELL.out wc i.k1
              have I2 := Lib.hid i
              clear i I1
              go_wp2_with fail
              refine (disks_crash mm wc I2.out hm0 hm1 HB.out).mono ?_
              rintro e wd ⟨⟨m, rfl⟩, i⟩
              obtain ⟨e0, e1, e2⟩ := CELL.out wd i.k1
              have I3 := Lib.hid i
              clear i I2
              go_wp2_with fail
              refine (mid_crash mm wd I3.out hm0 hm1 HB.out).mono ?_
              rintro e we ⟨⟨m', rfl⟩, i⟩
              have I4 := Lib.hid i
              clear i I3
              go_wp2_with fail
              refine (fresh_open we I4.out HT.out HB.out).mono ?_
              rintro e wf ⟨b', rfl, i⟩
              have I5 := Lib.hid i
              clear i I4
              go_wp2_with fail
              refine (mid_open wf I5.out HB.out).mono ?_
              rintro e wg ⟨rb', rfl, i⟩
              have I6 := Lib.hid i
              clear i I5
              go_wp2
              go_roundw
              case rel => exact ⟨b', rb', k + 1, by omega, rfl, rfl, rfl, rfl, by go_num, I6⟩
              case measure => simp [intOf]; omega
            · have k4 : (kd == 4) = false := by rw [beq_eq_false_iff_ne]; exact hk4
              have I2 := Lib.hid IA.out.disks
              clear IA
              go_wp2_with fail
              refine (disks_crash mm wa I2.out hm0 hm1 HB.out).mono ?_
              rintro e wd ⟨⟨m, rfl⟩, i⟩
              obtain ⟨e0, e1, e2⟩ := CELL.out wd i.k1
              have I3 := Lib.hid i
              clear i I2
              go_wp2_with fail
              refine (mid_crash mm wd I3.out hm0 hm1 HB.out).mono ?_
              rintro e we ⟨⟨m', rfl⟩, i⟩
              have I4 := Lib.hid i
              clear i I3
              go_wp2_with fail
              refine (fresh_open we I4.out HT.out HB.out).mono ?_
              rintro e wf ⟨b', rfl, i⟩
              have I5 := Lib.hid i
              clear i I4
              go_wp2_with fail
              refine (mid_open wf I5.out HB.out).mono ?_
              rintro e wg ⟨rb', rfl, i⟩
              have I6 := Lib.hid i
              clear i I5
              go_wp2
              go_roundw
              case rel => exact ⟨b', rb', k + 1, by omega, rfl, rfl, rfl, rfl, by go_num, I6⟩
              case measure => simp [intOf]; omega
    · go_wp2_with fail
      refine (both_same wr hI.out).mono ?_
      rintro e wa ⟨rfl, qa⟩
      have IA := Lib.hid (hI.out.kept qa)
      clear qa hI
      go_wp2_with fail
      refine (fix_any wa (HT.out.kept IA.out.k1)).mono ?_
      rintro e wb ⟨rfl, q⟩
      go_wp2
      go_ret
      exact ⟨rfl, (KW.out.trans IA.out.k1).trans q⟩
end Go.Proofs.YtenhncohhikllaaDoor
