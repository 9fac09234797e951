/-
  The walk of the law DiskDoes. Written by wip/mkddoes.py.
-/
import Derived.Test.YtedenkgjdmcafaaDsame
import Derived.Deep.RegionHeld3
namespace Go.Proofs.Ytedenkgjdmcafaa
open Go.ChangeShapes Go.WideShapes Go.ChangeAt Go.RowKit

namespace Dk
/-- no file has more bytes than that, wherever it stops -/
def Bnd (F : Fl) (ws : List W) (m : Nat) : Prop := ∀ n i, (after F ws n i).size ≤ m
theorem Bnd.snoc {F : Fl} {ws : List W} {m : Nat} (h : Bnd F ws m) (w : W) (hs : w.s.size ≤ 60) : Bnd F (ws ++ [w]) (m + 60) := by
  intro n i
  rw [after_snoc]
  have h1 := put_size (after F ws n) w (min (units w) (n - total ws)) i (Nat.min_le_left _ _)
  have h2 := h n i
  split at h1
  · split at h1 <;> omega
  · omega
theorem step_bnd {K : Fl} {ws : List W} {m : Nat} (h : Bnd K ws m) (kd f : Int) (s : ByteArray) (n : Int) (hs : s.size ≤ 60) : Bnd (step plus K ws kd f s n).1 (step plus K ws kd f s n).2.1 (m + 60) := by
  have h0 : Bnd K ws (m + 60) := fun n i => Nat.le_trans (h n i) (by omega)
  unfold step plus
  by_cases e0 : kd = 0
  · simp only [if_pos e0]
    split
    · exact h.snoc _ hs
    · exact h0
  · simp only [if_neg e0]
    by_cases e1 : kd = 1
    · simp only [if_pos e1]
      split
      · exact h.snoc _ hs
      · exact h0
    · simp only [if_neg e1]
      by_cases e2 : kd = 2
      · simp only [if_pos e2]
        exact fun _ i => h0 _ i
      · simp only [if_neg e2]
        by_cases e3 : kd = 3
        · simp only [if_pos e3]
          exact fun _ i => h0 _ i
        · simp only [if_neg e3]
          exact h0
end Dk

/-- the document's disk is as it was when the other one turned -/
theorem RD.past {w w' : World} {base base' r b : Nat} {B K : Dk.Fl} {v u : Value} {W ws : List Dk.W} (h : RD w base r B v W) (o : Dsk w base' b K u ws) (k : But (fun i => i = b ∨ u.ownBlock = some i) w w') : RD w' base r B v W := by
  refine h.but k ?_ ?_
  · rintro (rfl | e)
    · have := h.blk
      rw [o.blk] at this
      injection this with t
      injection t with _ t
      exact absurd t (by decide)
    · obtain ⟨_, cur, hg⟩ := o.row.blk e
      have := h.blk
      rw [hg] at this
      injection this with t
      injection t with _ t
      exact absurd t (by decide)
  · rintro i e (rfl | e')
    · obtain ⟨_, cur, hg⟩ := h.row.blk e
      rw [o.blk] at hg; cases hg
    · obtain ⟨_, cur, hg⟩ := h.row.blk e
      obtain ⟨_, cur', hg'⟩ := o.row.blk e'
      rw [hg] at hg'; cases hg'
theorem Dsk.pastr {w w' : World} {base base' r b : Nat} {B K : Dk.Fl} {v u : Value} {W ws : List Dk.W} (o : Dsk w base' b K u ws) (h : RD w base r B v W) (k : But (fun i => i = r ∨ v.ownBlock = some i) w w') : Dsk w' base' b K u ws := by
  refine o.but k ?_ ?_
  · rintro (rfl | e)
    · have := h.blk
      rw [o.blk] at this
      injection this with t
      injection t with _ t
      exact absurd t (by decide)
    · obtain ⟨_, cur, hg⟩ := h.row.blk e
      have := o.blk
      rw [hg] at this
      injection this with t
      injection t with _ t
      exact absurd t (by decide)
  · rintro i e (rfl | e')
    · obtain ⟨_, cur, hg⟩ := o.row.blk e
      rw [h.blk] at hg; cases hg
    · obtain ⟨_, cur, hg⟩ := h.row.blk e'
      obtain ⟨_, cur', hg'⟩ := o.row.blk e
      rw [hg] at hg'; cases hg'
theorem RD.still {W w w' : World} {base r : Nat} {B : Dk.Fl} {v : Value} {ws : List Dk.W} (h : RD w base r B v ws) (hb : W.heap.size ≤ base) (k : Kept W w) (f : But (fun i => i = r ∨ v.ownBlock = some i) w w') : Kept W w' :=
  But.after k f fun i hi e => by
    rcases e with rfl | e
    · have := h.low; omega
    · have := (h.row.blk e).1; omega

/-- what stands ahead of each round -/
def Doe (w wr : World) (base k b r : Nat) : Prop := Kept w wr ∧ ∃ K v W u, Dsk wr base b K v (Dk.clean W) ∧ RD wr base r K u W ∧ W.length ≤ k ∧ Dk.Bnd K W (60 * k)
theorem clean_len (W : List Dk.W) : (Dk.clean W).length ≤ W.length := List.length_filter_le _ _

set_option maxHeartbeats 4000000 in
set_option maxRecDepth 100000 in
theorem ddoes_walk (av : Option Addr) (len cap : Nat) (z : Nat → OpV) (w : World) (hz : OpArg w av len cap z) :
    Calls Try.prog 3 #[.slice av len cap] w fun e w' => e = .returned (.bool true) ∧ Kept w w' := by
  have HZ := Lib.hid hz
  have hl1 := hz.1
  have hl2 := hz.2.1
  unfold maxLen at hl2
  clear hz
  go_enter Try.func3, Try.ntmps3
  go_wp2_with fail
  refine (new_disk _).mono ?_
  rintro e w1 ⟨rfl, x1, k1⟩
  obtain ⟨base, hbase⟩ : ∃ base, base = w.heap.size := ⟨_, rfl⟩
  rw [← hbase] at x1 ⊢
  obtain ⟨b0, hb⟩ : ∃ b, b = base := ⟨_, rfl⟩
  have x1 : Dsk w1 base b0 dk0 (.slice none 0 0) [] := by rw [hb]; exact x1
  rw [show (Value.pointer (some ⟨base, 0, none⟩)) = .pointer (some ⟨b0, 0, none⟩) by rw [hb]]
  have HB : Hid (w.heap.size ≤ base) := by show _ ≤ _; omega
  have hw1 : base ≤ w1.heap.size := by have := k1.size; omega
  have D0 : Hid (Doe w (w1.alloc (.cells #[.string ⟨#[]⟩, .string ⟨#[]⟩, .string ⟨#[]⟩, .string ⟨#[]⟩, .slice none 0 0] 29)) base 0 b0 w1.heap.size) :=
    ⟨k1.alloc _, dk0, .slice none 0 0, [], .slice none 0 0, x1.kept ((Kept.refl _).alloc _), ⟨heap_alloc_new w1 _, hw1, OffV.nil _ _ _ _, Nat.zero_le _, by simp, Dk.fits_nil fun _ => Nat.zero_le _⟩, Nat.zero_le _, fun _ _ => Nat.zero_le _⟩
  clear x1 k1 hb hbase hw1
  go_wp2
  go_loopw [3, 4, 5] (fun p q i wr => ∃ k b r : Nat, k ≤ len ∧ k ≤ 60 ∧ i = .int .i64 k ∧ p = .pointer (some ⟨b, 0, none⟩) ∧ q = .pointer (some ⟨r, 0, none⟩) ∧ Hid (Doe w wr base k b r)) (fun _ _ i _ => 60 - (intOf i).toNat)
  case atStart => exact ⟨0, b0, _, Nat.zero_le _, Nat.zero_le _, rfl, rfl, rfl, D0⟩
  case round =>
    obtain ⟨k, b, r, hk, hk60, rfl, rfl, rfl, HR⟩ := hrel
    by_cases hlt : k < len ∧ k < 60
    · obtain ⟨hlt1, hlt2⟩ := hlt
      obtain ⟨kr, K, v, W, u, x, y, hwl, hbnd⟩ := HR.out
      have X := Lib.hid x
      have Y := Lib.hid y
      have KR := Lib.hid kr
      have HBND := Lib.hid hbnd
      obtain ⟨B, off, rfl, c0, c1, c2, c3, hs, n0, n1⟩ := HZ.out.cells kr hlt1
      have CZ := Lib.hid (fun w' (q : Kept w w') => HZ.out.cells q hlt1)
      clear x y kr HR D0 hbnd
      generalize hkd : (z k).kind = kd at c0 CZ
      generalize hff : (z k).file = f at c1 CZ
      generalize hSS : (z k).s = S at c2 hs CZ
      generalize hmm : (z k).n = m at c3 n0 n1 CZ
      clear hkd hff hSS hmm
      have CS : Hid (∀ w', Kept w w' → w'.cell? ⟨B, off + k * 4, none⟩ = some (.int .i64 kd) ∧ w'.cell? ⟨B, off + k * 4 + 1, none⟩ = some (.int .i64 f) ∧ w'.cell? ⟨B, off + k * 4 + 2, none⟩ = some (.string S) ∧ w'.cell? ⟨B, off + k * 4 + 3, none⟩ = some (.int .i64 m)) := fun w' q => by
        obtain ⟨B', off', e, d0, d1, d2, d3, _⟩ := CZ.out w' q
        cases e
        exact ⟨d0, d1, d2, d3⟩
      have hcl := clean_len W
      clear CZ
      by_cases h4 : kd = 4
      · subst h4
        obtain ⟨wo, rfl⟩ : ∃ wo, wo = wr := ⟨_, rfl⟩
        go_wp2_with fail
        refine (copy_disk _ X.out).mono ?_
        rintro e w2 ⟨b', v', rfl, x2, k2⟩
        have O2 := Lib.hid (X.out.kept k2)
        have Y2 := Lib.hid (Y.out.kept k2)
        have KR2 := Lib.hid (KR.out.trans k2)
        have hne : Hid (b' ≠ b) := by have := x2.low; have := heap_lt X.out.blk; show _ ≠ _; omega
        have AP : Hid (RApart v' v) := fun i h1 h2 => by
          obtain ⟨_, cur, hg⟩ := X.out.row.blk h2
          have := heap_lt hg
          have := (x2.row.blk h1).1
          omega
        have N2 := Lib.hid (x2.mono (base' := base) (by have := X.out.low; have := heap_lt X.out.blk; omega))
        clear x2 k2 X Y KR c0 c1 c2 c3
        go_wp2_with fail
        refine (rcopy_any _ Y2.out).mono ?_
        rintro e w3 ⟨r', u', rfl, y3, k3⟩
        have O3 := Lib.hid (O2.out.kept k3)
        have N3 := Lib.hid (N2.out.kept k3)
        have KR3 := Lib.hid (KR2.out.trans k3)
        have Y3 := Lib.hid (y3.mono (base' := base) (by have := Y2.out.low; have := heap_lt Y2.out.blk; omega))
        clear y3 k3 O2 N2 KR2 Y2
        go_wp2_with fail
        refine (append_is 0 ⟨#[115, 112, 111, 105, 108, 116]⟩ 0 (Dk.more (Dk.clean W) ⟨0, ⟨#[115, 112, 111, 105, 108, 116]⟩, false⟩) _ O3.out (by omega) (by decide) (by
          unfold Dk.ansA
          rw [if_pos (by decide), show (0 : Int).toNat = 0 from rfl, Dk.after_clean, Dk.total_clean, if_pos (by have := HBND.out (Dk.total W) 0; rw [show (ByteArray.mk #[115, 112, 111, 105, 108, 116]).size = 6 from rfl]; omega)]) rfl).mono ?_
        rintro e w4 ⟨rfl, v4, x4, g4, f4⟩
        have O4 := Lib.hid x4
        have N4 := Lib.hid (N3.out.over O3.out hne.out AP.out f4)
        have Y4 := Lib.hid (Y3.out.past O3.out f4)
        have KR4 := Lib.hid (O3.out.still HB.out KR3.out f4)
        have AP4 : Hid (RApart v' v4) := (AP.out.symm.went g4 N3.out.row).symm
        clear x4 g4 f4 O3 N3 Y3 KR3 AP
        go_wp2_with fail
        refine (sync_is _ O4.out rfl).mono ?_
        rintro e w5 ⟨rfl, x5, f5⟩
        have X := Lib.hid (N4.out.over O4.out hne.out AP4.out f5)
        have Y := Lib.hid (Y4.out.past O4.out f5)
        have KR := Lib.hid (O4.out.still HB.out KR4.out f5)
        clear x5 f5 O4 N4 Y4 KR4 AP4 hne
        obtain ⟨c0, c1, c2, c3⟩ := CS.out _ KR.out
        go_wp2_with fail
        clear c0 c1 c2 c3
        have hst := Dk.step_clean K W 4 f (Dk.cut S) m
        have hbn := Dk.step_bnd HBND.out 4 f (Dk.cut S) m (Dk.cut_size S)
        have PL := Lib.hid (fun w' (q : Kept w5 w') => play_any 4 f S m w' (X.out.kept q) (by omega) hs n0 n1)
        have SM := Lib.hid (fun w' (q : RD w' base r' K u' W) => rsame_any 4 f S m w' q (by omega) (fun i => by have := HBND.out (Dk.total W) i; omega) hs n0 n1)
        rw [hst] at PL
        generalize Dk.step Dk.plus K W 4 f (Dk.cut S) m = R at PL SM hbn
        clear hst
        obtain ⟨K', W', a⟩ := R
        simp only at PL SM hbn
        have HBN := Lib.hid hbn
        have DR : Kept w5 w5.drew := (Kept.refl _).drew
        have KD := Lib.hid (KR.out.trans DR)
        clear hbn HBND
        go_region_held3 (fun w' => w'.cell? ⟨B, off + k * 4, none⟩ = some (.int .i64 4) ∧ w'.cell? ⟨B, off + k * 4 + 1, none⟩ = some (.int .i64 f) ∧ w'.cell? ⟨B, off + k * 4 + 2, none⟩ = some (.string S) ∧ w'.cell? ⟨B, off + k * 4 + 3, none⟩ = some (.int .i64 m))
          (first | exact CS.out _ KD.out | exact CS.out _ j1 | exact CS.out _ j2 | exact CS.out _ j3)
          (first
            | (go_at_call 14; refine (PL.out _ DR).mono ?_; rintro e p1 ⟨rfl, va, x1, l1, g1, f1⟩; have j1 := (X.out.kept DR).still HB.out KD.out f1; have y1 := (Y.out.kept DR).past (X.out.kept DR) f1; simp only at x1 l1)
            | (go_at_call 15; refine (SM.out _ y1).mono ?_; rintro e p2 ⟨rfl, ua, y2, l2, g2, f2⟩; have j2 := y1.still HB.out j1 f2; have x2 := x1.pastr y1 f2; simp only at y2 l2)
            | (go_at_call 16; refine (units_is (Dk.total W' : Int) _ x2 (by rw [Dk.total_clean])).mono ?_; rintro e p3 ⟨rfl, k3⟩; have j3 := j2.trans k3; have x3 := x2.kept k3; have y3 := y2.kept k3)
            | (go_at_call 17; refine (runits_any _ y3).mono ?_; rintro e p4 ⟨rfl, rfl⟩))
        have X3 := Lib.hid x3
        have Y3 := Lib.hid y3
        have J3 := Lib.hid j3
        have hl2 : W'.length ≤ k + 1 := by omega
        clear x1 l1 g1 f1 y1 j1 y2 l2 g2 f2 j2 x2 k3 j3 x3 y3 PL SM X Y KR KD DR
        go_wp2
        go_loopw [7] (fun i wr => ∃ j : Nat, j ≤ 6 ∧ i = .int .i64 ((j : Int) - 1) ∧ Hid (Kept p3 wr)) (fun i _ => 5 - intOf i |>.toNat)
        case atStart => exact ⟨0, Nat.zero_le _, rfl, Kept.refl _⟩
        case round =>
          obtain ⟨j, hj, rfl, RJ⟩ := hrel
          by_cases hj6 : j < 6
          · obtain ⟨T, hT⟩ : ∃ T, T = (if 0 ≤ (j : Int) - 1 ∧ (j : Int) - 1 < 4 then Dk.after K' W' (Dk.total W') ((j : Int) - 1).toNat else ⟨#[]⟩) := ⟨_, rfl⟩
            obtain ⟨T2, hT2⟩ : ∃ T2, T2 = (if 0 ≤ (j : Int) - 1 ∧ (j : Int) - 1 < 4 then K' ((j : Int) - 1).toNat else ⟨#[]⟩) := ⟨_, rfl⟩
            have RA := Lib.hid (fun w' (q : Kept p3 w') => read_is ((j : Int) - 1) T w' (X3.out.kept q) (by rw [Dk.total_clean, Dk.after_clean, hT]))
            have RB := Lib.hid (fun w' (q : Kept p3 w') => hT ▸ rread_any ((j : Int) - 1) w' (Y3.out.kept q))
            have RC := Lib.hid (fun w' (q : Kept p3 w') => kept_is ((j : Int) - 1) T2 w' (X3.out.kept q) hT2.symm)
            have RE := Lib.hid (fun w' (q : Kept p3 w') => hT2 ▸ rkept_any ((j : Int) - 1) w' (Y3.out.kept q))
            clear hT hT2
            go_wp2_with fail
            refine (RA.out _ RJ.out).mono ?_
            rintro e q1 ⟨rfl, t⟩
            have Q1 := Lib.hid (RJ.out.trans t)
            clear t
            go_wp2_with fail
            refine (RB.out _ Q1.out).mono ?_
            rintro e q2 ⟨rfl, t⟩
            have Q2 := Lib.hid (Q1.out.trans t)
            clear t Q1
            go_wp2_with fail
            refine (RC.out _ Q2.out).mono ?_
            rintro e q3 ⟨rfl, t⟩
            have Q3 := Lib.hid (Q2.out.trans t)
            clear t Q2
            go_wp2_with fail
            refine (RE.out _ Q3.out).mono ?_
            rintro e q4 ⟨rfl, t⟩
            have Q4 := Lib.hid (Q3.out.trans t)
            clear t Q3 RA RB RC RE RJ
            go_wp2
            go_roundw
            case rel => exact ⟨j + 1, by omega, by go_num, Q4.out⟩
            case measure => simp [intOf]; omega
          · have hjj : j = 6 := by omega
            subst hjj
            have D2 : Hid (Doe w wr base (k + 1) b' r') := ⟨J3.out.trans RJ.out, K', _, W', _, X3.out.kept RJ.out, Y3.out.kept RJ.out, hl2, fun n i => by have := HBN.out n i; omega⟩
            clear X3 Y3 J3 RJ HBN
            go_wp2
            go_roundw
            case rel => exact ⟨k + 1, b', r', by omega, by omega, by go_num, rfl, rfl, D2⟩
            case measure => simp [intOf]; omega
      · have e4 : (kd == 4) = false := by rw [beq_eq_false_iff_ne]; exact h4
        obtain ⟨wo, rfl⟩ : ∃ wo, wo = wr := ⟨_, rfl⟩
        clear h4
        go_wp2_with fail
        clear c0 c1 c2 c3
        have hst := Dk.step_clean K W kd f (Dk.cut S) m
        have hbn := Dk.step_bnd HBND.out kd f (Dk.cut S) m (Dk.cut_size S)
        have PL := Lib.hid (fun w' (q : Kept wo w') => play_any kd f S m w' (X.out.kept q) (by omega) hs n0 n1)
        have SM := Lib.hid (fun w' (q : RD w' base r K u W) => rsame_any kd f S m w' q (by omega) (fun i => by have := HBND.out (Dk.total W) i; omega) hs n0 n1)
        rw [hst] at PL
        generalize Dk.step Dk.plus K W kd f (Dk.cut S) m = R at PL SM hbn
        clear hst
        obtain ⟨K', W', a⟩ := R
        simp only at PL SM hbn
        have HBN := Lib.hid hbn
        have DR : Kept wo wo.drew := (Kept.refl _).drew
        have KD := Lib.hid (KR.out.trans DR)
        clear hbn HBND
        go_region_held3 (fun w' => w'.cell? ⟨B, off + k * 4, none⟩ = some (.int .i64 kd) ∧ w'.cell? ⟨B, off + k * 4 + 1, none⟩ = some (.int .i64 f) ∧ w'.cell? ⟨B, off + k * 4 + 2, none⟩ = some (.string S) ∧ w'.cell? ⟨B, off + k * 4 + 3, none⟩ = some (.int .i64 m))
          (first | exact CS.out _ KD.out | exact CS.out _ j1 | exact CS.out _ j2 | exact CS.out _ j3)
          (first
            | (go_at_call 14; refine (PL.out _ DR).mono ?_; rintro e p1 ⟨rfl, va, x1, l1, g1, f1⟩; have j1 := (X.out.kept DR).still HB.out KD.out f1; have y1 := (Y.out.kept DR).past (X.out.kept DR) f1; simp only at x1 l1)
            | (go_at_call 15; refine (SM.out _ y1).mono ?_; rintro e p2 ⟨rfl, ua, y2, l2, g2, f2⟩; have j2 := y1.still HB.out j1 f2; have x2 := x1.pastr y1 f2; simp only at y2 l2)
            | (go_at_call 16; refine (units_is (Dk.total W' : Int) _ x2 (by rw [Dk.total_clean])).mono ?_; rintro e p3 ⟨rfl, k3⟩; have j3 := j2.trans k3; have x3 := x2.kept k3; have y3 := y2.kept k3)
            | (go_at_call 17; refine (runits_any _ y3).mono ?_; rintro e p4 ⟨rfl, rfl⟩))
        have X3 := Lib.hid x3
        have Y3 := Lib.hid y3
        have J3 := Lib.hid j3
        have hl2 : W'.length ≤ k + 1 := by omega
        clear x1 l1 g1 f1 y1 j1 y2 l2 g2 f2 j2 x2 k3 j3 x3 y3 PL SM X Y KR KD DR
        go_wp2
        go_loopw [7] (fun i wr => ∃ j : Nat, j ≤ 6 ∧ i = .int .i64 ((j : Int) - 1) ∧ Hid (Kept p3 wr)) (fun i _ => 5 - intOf i |>.toNat)
        case atStart => exact ⟨0, Nat.zero_le _, rfl, Kept.refl _⟩
        case round =>
          obtain ⟨j, hj, rfl, RJ⟩ := hrel
          by_cases hj6 : j < 6
          · obtain ⟨T, hT⟩ : ∃ T, T = (if 0 ≤ (j : Int) - 1 ∧ (j : Int) - 1 < 4 then Dk.after K' W' (Dk.total W') ((j : Int) - 1).toNat else ⟨#[]⟩) := ⟨_, rfl⟩
            obtain ⟨T2, hT2⟩ : ∃ T2, T2 = (if 0 ≤ (j : Int) - 1 ∧ (j : Int) - 1 < 4 then K' ((j : Int) - 1).toNat else ⟨#[]⟩) := ⟨_, rfl⟩
            have RA := Lib.hid (fun w' (q : Kept p3 w') => read_is ((j : Int) - 1) T w' (X3.out.kept q) (by rw [Dk.total_clean, Dk.after_clean, hT]))
            have RB := Lib.hid (fun w' (q : Kept p3 w') => hT ▸ rread_any ((j : Int) - 1) w' (Y3.out.kept q))
            have RC := Lib.hid (fun w' (q : Kept p3 w') => kept_is ((j : Int) - 1) T2 w' (X3.out.kept q) hT2.symm)
            have RE := Lib.hid (fun w' (q : Kept p3 w') => hT2 ▸ rkept_any ((j : Int) - 1) w' (Y3.out.kept q))
            clear hT hT2
            go_wp2_with fail
            refine (RA.out _ RJ.out).mono ?_
            rintro e q1 ⟨rfl, t⟩
            have Q1 := Lib.hid (RJ.out.trans t)
            clear t
            go_wp2_with fail
            refine (RB.out _ Q1.out).mono ?_
            rintro e q2 ⟨rfl, t⟩
            have Q2 := Lib.hid (Q1.out.trans t)
            clear t Q1
            go_wp2_with fail
            refine (RC.out _ Q2.out).mono ?_
            rintro e q3 ⟨rfl, t⟩
            have Q3 := Lib.hid (Q2.out.trans t)
            clear t Q2
            go_wp2_with fail
            refine (RE.out _ Q3.out).mono ?_
            rintro e q4 ⟨rfl, t⟩
            have Q4 := Lib.hid (Q3.out.trans t)
            clear t Q3 RA RB RC RE RJ
            go_wp2
            go_roundw
            case rel => exact ⟨j + 1, by omega, by go_num, Q4.out⟩
            case measure => simp [intOf]; omega
          · have hjj : j = 6 := by omega
            subst hjj
            have D2 : Hid (Doe w wr base (k + 1) b r) := ⟨J3.out.trans RJ.out, K', _, W', _, X3.out.kept RJ.out, Y3.out.kept RJ.out, hl2, fun n i => by have := HBN.out n i; omega⟩
            clear X3 Y3 J3 RJ HBN
            go_wp2
            go_roundw
            case rel => exact ⟨k + 1, b, r, by omega, by omega, by go_num, rfl, rfl, D2⟩
            case measure => simp [intOf]; omega
    · obtain ⟨kr, _⟩ := HR.out
      have KR := Lib.hid kr
      clear kr HR D0 HZ
      have h6 : len ≤ k ∨ 60 ≤ k := by omega
      go_wp2_with fail
      all_goals
        refine (fix_any _).mono ?_
        rintro e w5 ⟨rfl, k5⟩
        have K5 := Lib.hid (KR.out.trans k5)
        clear k5 h6 hlt
        go_wp2
        go_ret
        exact ⟨rfl, K5.out⟩
end Go.Proofs.Ytedenkgjdmcafaa
