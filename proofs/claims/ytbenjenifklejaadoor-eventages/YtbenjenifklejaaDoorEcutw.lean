/-
  The walk of Cut.
-/
import Derived.Test.YtbenjenifklejaaDoorEmcut
import Derived.Deep.RegionHeld3
namespace Go.Proofs.YtbenjenifklejaaDoor
open Go.ChangeShapes Go.WideShapes Go.ChangeAt Go.RowKit

/-- marks, a place and an error as Cut tells them -/
def CutRes (w : World) (x : List Ev.M × Nat × Nat) (r : Ending) (w' : World) : Prop :=
  ∃ av cap, r = .returned (.tuple #[.slice av x.1.length cap, .int .i64 x.2.1, .int .i64 x.2.2]) ∧ MkS w' av cap x.1 ∧ Kept w w'
theorem cutRes_nil {w w' : World} {x : List Ev.M × Nat × Nat} {e : Nat} (hx : x = ([], 0, e)) (k : Kept w w') : CutRes w x (.returned (.tuple #[.slice none 0 0, .int .i64 0, .int .i64 e])) w' := by
  subst hx
  exact ⟨none, 0, rfl, MkS.nil w', k⟩

theorem four (w : World) (c0 c1 c2 c3 : Array Value) (t0 t1 t2 t3 : TypeId) :
    Blk ((((w.alloc (.cells c0 t0)).alloc (.cells c1 t1)).alloc (.cells c2 t2)).alloc (.cells c3 t3)) w.heap.size c0 t0 ∧
    Blk ((((w.alloc (.cells c0 t0)).alloc (.cells c1 t1)).alloc (.cells c2 t2)).alloc (.cells c3 t3)) (w.heap.size + 1) c1 t1 ∧
    Blk ((((w.alloc (.cells c0 t0)).alloc (.cells c1 t1)).alloc (.cells c2 t2)).alloc (.cells c3 t3)) (w.heap.size + 1 + 1) c2 t2 ∧
    Blk ((((w.alloc (.cells c0 t0)).alloc (.cells c1 t1)).alloc (.cells c2 t2)).alloc (.cells c3 t3)) (w.heap.size + 1 + 2) c3 t3 := by
  have h0 := Blk.made w c0 t0
  have h1 := Blk.made (w.alloc (.cells c0 t0)) c1 t1
  have h2 := Blk.made ((w.alloc (.cells c0 t0)).alloc (.cells c1 t1)) c2 t2
  have h3 := Blk.made (((w.alloc (.cells c0 t0)).alloc (.cells c1 t1)).alloc (.cells c2 t2)) c3 t3
  simp only [World.size_alloc] at h0 h1 h2 h3
  exact ⟨((h0.alloc _).alloc _).alloc _, (h1.alloc _).alloc _, h2.alloc _, h3⟩

set_option maxHeartbeats 2000000 in
set_option maxRecDepth 100000 in
theorem evcut_any (s : ByteArray) (a : Int) (w : World) (hs : s.size ≤ 140737488355328) (h1 : -9223372036854775808 ≤ a) (h2 : a ≤ 9223372036854775807) (hT : Tab w) :
    Calls Tryd.prog 24 #[.string s, .int .i64 a] w (CutRes w (Ev.mcut s.data.toList a)) := by
  have Hsl := Lib.hid (size_len s)
  have h0 := hT.size
  have HT := Lib.hid hT
  clear hT
  go_enter Tryd.func24, Tryd.ntmps24
  go_wp2_with fail
  refine (taker_any s a _).mono ?_
  rintro r w1 ⟨rfl, rfl⟩
  simp only [World.size_alloc]
  go_wp2_with fail
  refine (number_any _ _ _).mono ?_
  rintro r w1 ⟨rfl, rfl⟩
  have H4 := Lib.hid (four w #[.int .i64 0] #[.string s] #[.int .i64 a] #[.int .i64 0] 3 9 3 31)
  have hk4 : Kept w ((((w.alloc (.cells #[.int .i64 0] 3)).alloc (.cells #[.string s] 9)).alloc (.cells #[.int .i64 a] 3)).alloc (.cells #[.int .i64 0] 31)) := (((Kept.refl w).alloc _).alloc _).alloc _ |>.alloc _
  obtain ⟨w4, hw4⟩ : ∃ w4, w4 = (((w.alloc (.cells #[.int .i64 0] 3)).alloc (.cells #[.string s] 9)).alloc (.cells #[.int .i64 a] 3)).alloc (.cells #[.int .i64 0] 31) := ⟨_, rfl⟩
  rw [← hw4] at H4 hk4 ⊢
  clear hw4
  obtain ⟨b0, b1, b2, b3⟩ := H4.out
  obtain ⟨R, hR⟩ : ∃ R, R = w.heap.size := ⟨_, rfl⟩
  rw [← hR] at h0 b0 b1 b2 b3 ⊢
  have HR := Lib.hid hR
  have htk0 : Tk w4 (R + 1 + 2) (R + 1) (R + 1 + 1) s ([], a, 0) := ⟨b3, b1, b2⟩
  have hfar : Far R (R + 1 + 2) (R + 1) (R + 1 + 1) R := by constructor <;> omega
  have HF := Lib.hid hfar
  have HTk0 := Lib.hid htk0
  have B0 := Lib.hid b0
  have HT4 := Lib.hid (HT.out.kept hk4)
  have K4 := Lib.hid hk4
  clear H4 hR htk0 hfar b0 b1 b2 b3 hk4
  go_wp2_with fail
  refine (take_num 0 R (R + 1 + 2) (R + 1) (R + 1 + 1) R 3 s ([], a, 0) _ w4 hs ⟨h1, h2, Nat.zero_le _⟩ HT4.out h0 HF.out HTk0.out B0.out (by simp)).mono ?_
  rintro r w8 ⟨rfl, t8⟩
  have e1 : (tk1 s.data.toList (([], a, 0), #[.int .i64 0]) ⟨true, 0, 0⟩).1.2 = (((vget s.data.toList a).2.1 : Int), (vget s.data.toList a).2.2) := Ev.istep_keeps s.data.toList ([], a, 0) true rfl
  have e2 : (tk1 s.data.toList (([], a, 0), #[.int .i64 0]) ⟨true, 0, 0⟩).2 = #[.int .i64 (Ev.clip (vget s.data.toList a).1)] := rfl
  obtain ⟨⟨t81, t82, t83⟩, t84, t85⟩ := t8
  rw [e1] at t81 t83 ⊢
  rw [e2] at t84
  have hcut : Ev.mcut s.data.toList a = Ev.mcut s.data.toList a := rfl
  conv at hcut => rhs; unfold Ev.mcut
  have hle := vget_le s.data.toList a
  obtain ⟨⟨c, to, er⟩, hv⟩ : ∃ x, x = vget s.data.toList a := ⟨_, rfl⟩
  rw [← hv, Hsl.out] at hle
  rw [← hv] at t81 t83 t84 hcut ⊢
  simp only at t81 t83 t84 hcut hle ⊢
  obtain ⟨l1, l2, l3⟩ := hle
  have hclip : Ev.clip c ≤ 1099511627777 := by unfold Ev.clip; omega
  have Hcut := Lib.hid hcut
  have c0 := t84.cell 0
  simp only [List.getElem?_toArray, List.getElem?_cons_zero] at c0
  have kw8 : Kept w w8 := But.after K4.out t85 (fun i hi => by rw [← HR.out] at hi; rintro (h | h | h) <;> omega)
  have KW8 := Lib.hid kw8
  have htk8 : Tk w8 (R + 1 + 2) (R + 1) (R + 1 + 1) s ([], (to : Int), er) := ⟨t81, t82, t83⟩
  have HTk8 := Lib.hid htk8
  have HT8 := Lib.hid (HT.out.kept kw8)
  have hR8 := t81.lt
  clear e1 e2 t81 t82 t83 t84 t85 hcut hv kw8 htk8 HTk0 B0 HT4 K4
  by_cases he : er = 0
  · subst he
    by_cases hbig : 32 < c
    · have hb2 : (32 : Int) < (Ev.clip c : Int) := by unfold Ev.clip; omega
      have HC : Hid (Ev.mcut s.data.toList a = ([], 0, 2)) := by show _ = _; rw [Hcut.out, if_neg (by simp), if_pos hbig]
      go_wp2
      go_ret3
      exact cutRes_nil HC.out KW8.out
    · have hcc : Ev.clip c = c := by unfold Ev.clip; omega
      rw [hcc] at c0
      obtain ⟨Z, hZ, hmk⟩ := make_marks c (by omega)
      have HZ := Lib.hid hZ
      have hb3 : decide ((32 : Int) < (c : Int)) = false := by simp; omega
      clear hZ hcc hclip
      go_wp2
      clear hmk c0
      have b9 := Blk.made w8 Z 59
      have k9 : Kept w8 (w8.alloc (.cells Z 59)) := (Kept.refl w8).alloc _
      obtain ⟨w9, hw9⟩ : ∃ w9, w9 = w8.alloc (.cells Z 59) := ⟨_, rfl⟩
      rw [← hw9] at b9 k9 ⊢
      obtain ⟨L, hL⟩ : ∃ L, L = w8.heap.size := ⟨_, rfl⟩
      rw [← hL] at b9 ⊢
      have htk9 : Tk w9 (R + 1 + 2) (R + 1) (R + 1 + 1) s ([], (to : Int), 0) := ⟨HTk8.out.first.kept k9, HTk8.out.text.kept k9, HTk8.out.at_.kept k9⟩
      have hfarL : Far R (R + 1 + 2) (R + 1) (R + 1 + 1) L := by constructor <;> omega
      have HFL := Lib.hid hfarL
      have HTk9 := Lib.hid htk9
      have B9 := Lib.hid b9
      have K9 := Lib.hid (KW8.out.trans k9)
      have HT9 := Lib.hid (HT8.out.kept k9)
      have hRL : R ≤ L := by omega
      clear hw9 b9 k9 htk9 hfarL hL
      go_loopw [12, 34] (fun _ i wr => ∃ k : Nat, k ≤ c ∧ i = .int .i64 k ∧ Took w9 (R + 1 + 2) (R + 1) (R + 1 + 1) L s 59 (mgot s.data.toList to Z (2 * k)) wr) (fun _ i _ => c - (intOf i).toNat)
      case atStart => exact ⟨0, by omega, rfl, HTk9.out, B9.out, But.refl _ _⟩
      case round =>
        obtain ⟨k, hk, rfl, htk⟩ := hrel
        have hTr : Tab wr := HT9.out.but htk.2.2 (by rintro (h | h | h) <;> omega)
        have hfair := mgot_fair s.data.toList (by rw [Hsl.out]; omega) to (by omega) (by omega) Z (2 * k)
        have hgs := mgot_size s.data.toList to Z (2 * k)
        have HTr := Lib.hid hTr
        have Hfair := Lib.hid hfair
        have Hgs := Lib.hid hgs
        have Htk := Lib.hid htk
        clear hTr hfair hgs htk
        by_cases hlt : k < c
        · have hki : (k : Int) < (c : Int) := by omega
          have hnx : tk1 s.data.toList (tk1 s.data.toList ((mgot s.data.toList to Z (2 * k)).1, (mgot s.data.toList to Z (2 * k)).2) ⟨true, 0, k * 2⟩) ⟨true, 0, k * 2 + 1⟩ = mgot s.data.toList to Z (2 * (k + 1)) := by
            rw [show 2 * (k + 1) = 2 * k + 1 + 1 by omega, mgot_succ, mgot_succ, Nat.mul_comm k 2]
          have Hnx := Lib.hid hnx
          have ct := take_nums (k * 2) (k * 2 + 1) R (R + 1 + 2) (R + 1) (R + 1 + 1) L 59 s (mgot s.data.toList to Z (2 * k)).1 (mgot s.data.toList to Z (2 * k)).2 wr.drew hs Hfair.out (HTr.out.kept (Kept.refl wr).drew) h0 HFL.out ⟨Htk.out.1.first, Htk.out.1.text, Htk.out.1.at_⟩ Htk.out.2.1 (by rw [Hgs.out, HZ.out]; omega) (by rw [Hgs.out, HZ.out]; omega)
          have CT := Lib.hid ct
          clear hnx ct
          go_wp2_with fail
          go_region_held3 (fun _ => True) (trivial)
            (first
              | (go_at_call 45; refine (number_any _ _ _).mono ?_; rintro r w7 ⟨rfl, rfl⟩)
              | (go_at_call 61; refine CT.out.mono ?_; rintro r w8 ⟨rfl, t8⟩))
          have h8 : Took w9 (R + 1 + 2) (R + 1) (R + 1 + 1) L s 59 (mgot s.data.toList to Z (2 * (k + 1))) w8 := by
            rw [← Hnx.out]
            exact Htk.out.step ⟨t8.1, t8.2.1, (Kept.but (S := fun i => i = R + 1 + 2 ∨ i = R + 1 + 1 ∨ i = L) (Kept.refl wr).drew).trans t8.2.2 (fun _ _ h => h)⟩
          have H8 := Lib.hid h8
          clear t8 h8
          go_wp2
          go_roundw
          case rel =>
            (first
              | exact ⟨k + 1, by omega, by go_num, H8.out⟩
              | (repeat apply Exists.intro
                 refine ⟨?_, rfl⟩
                 exact ⟨k + 1, by omega, by go_num, H8.out⟩))
          case measure => simp [intOf]; omega
        · obtain rfl : k = c := by omega
          have ct := take_parts [] none R 0 (R + 1 + 2) (R + 1) (R + 1 + 1) L 59 s (mgot s.data.toList to Z (2 * k)).1 (mgot s.data.toList to Z (2 * k)).2 wr wr hs Hfair.out HTr.out (by simp) h0 HFL.out (Kept.refl wr) Htk.out.1 Htk.out.2.1 (.inl rfl) (by simp)
          have CT := Lib.hid ct
          clear ct
          go_wp2_with fail
          refine CT.out.mono ?_
          rintro r w10 ⟨rfl, t10⟩
          have h10 := Htk.out.step t10
          have etk : tk s.data.toList ((mgot s.data.toList to Z (2 * k)).1, (mgot s.data.toList to Z (2 * k)).2) [] = mgot s.data.toList to Z (2 * k) := rfl
          rw [etk] at h10 ⊢
          have hfst := mgot_fst s.data.toList to Z (2 * k)
          have hmk := mgot_marks s.data.toList to Z k L 59 w10 (by omega) HZ.out
          have hat := mgot_at s.data.toList to Z (2 * k) (by rw [HZ.out]; exact Nat.le_refl _)
          have hcut := Hcut.out
          rw [if_neg (by simp), if_neg hbig, ← hfst] at hcut
          have hfair := Hfair.out
          have kw10 : Kept w w10 := But.after K9.out h10.2.2 (fun i hi => by rw [← HR.out] at hi; rintro (h | h | h) <;> omega)
          have bL := h10.2.1
          obtain ⟨⟨⟨its, p, e⟩, arr⟩, hy⟩ : ∃ y, y = mgot s.data.toList to Z (2 * k) := ⟨_, rfl⟩
          rw [← hy] at hmk hat hcut hfair bL ⊢
          simp only at hmk hat hcut bL ⊢
          obtain ⟨q0, q1, q2⟩ := hfair
          simp only at q0 q1 q2
          have Hcut2 := Lib.hid hcut
          have KW10 := Lib.hid kw10
          clear hcut hy hfst etk h10 t10 kw10
          by_cases he : e = 0
          · subst he
            obtain ⟨ml, mk⟩ := hmk rfl bL
            have hp : 0 ≤ p := (hat rfl).2.1 (by omega)
            clear hmk hat bL
            obtain ⟨ms, hms⟩ : ∃ ms, ms = Ev.ofPairs its := ⟨_, rfl⟩
            rw [← hms] at ml mk Hcut2
            have cs := sorted_any (some ⟨L, 0, none⟩) k ms w10 mk
            rw [ml] at cs
            have CS := Lib.hid cs
            have ML := Lib.hid ml
            have MK := Lib.hid mk
            clear cs ml mk hms
            go_wp2_with fail
            refine CS.out.mono ?_
            rintro r w11 ⟨rfl, k11⟩
            have K11 := Lib.hid (KW10.out.trans k11)
            have MK11 := Lib.hid (MK.out.kept k11)
            by_cases hso : Ev.sorted ms = true
            · have HC : Hid (Ev.mcut s.data.toList a = (ms, p.toNat, 0)) := by show _ = _; rw [Hcut2.out, if_neg (by simp), if_pos hso]
              rw [hso]
              clear k11 hso
              go_wp2
              go_ret3
              refine ⟨some ⟨L, 0, none⟩, k, ?_, ?_, K11.out⟩
              · rw [HC.out, ML.out]
                show Ending.returned (.tuple #[.slice (some ⟨L, 0, none⟩) k k, .int .i64 p, .int .i64 0]) = .returned (.tuple #[.slice (some ⟨L, 0, none⟩) k k, .int .i64 ((p.toNat : Nat) : Int), .int .i64 0])
                rw [Int.toNat_of_nonneg hp]
              · rw [HC.out]; exact MK11.out
            · have HC : Hid (Ev.mcut s.data.toList a = ([], 0, 4)) := by show _ = _; rw [Hcut2.out, if_neg (by simp), if_neg hso]
              rw [Bool.not_eq_true] at hso
              rw [hso]
              clear k11 hso
              go_wp2
              go_ret3
              exact cutRes_nil HC.out K11.out
          · have he2 : ((e : Int) == 0) = false := by simp only [beq_eq_false_iff_ne]; omega
            have he3 : ((e : Int) != 0) = true := by simp [bne, he2]
            have HC : Hid (Ev.mcut s.data.toList a = ([], 0, e)) := by show _ = _; rw [Hcut2.out, if_pos he]
            clear hmk hat bL
            go_wp2
            go_ret3
            exact cutRes_nil HC.out KW10.out
  · have he2 : ((er : Int) == 0) = false := by simp only [beq_eq_false_iff_ne]; omega
    have he3 : ((er : Int) != 0) = true := by simp [bne, he2]
    have HC : Hid (Ev.mcut s.data.toList a = ([], 0, er)) := by show _ = _; rw [Hcut.out, if_pos he]
    go_wp2
    go_ret3
    exact cutRes_nil HC.out KW8.out
end Go.Proofs.YtbenjenifklejaaDoor
