/-
  The walk of the law DiskSyncs.
-/
import Derived.Test.YtedenkgjdmcafaaLdcrashes
namespace Go.Proofs.Ytedenkgjdmcafaa
open Go.ChangeShapes Go.WideShapes Go.ChangeAt Go.RowKit

theorem strcells {w : World} {b : Nat} {t : TypeId} {F : Dk.Fl} (h : w.heap[b]? = some (.cells #[.string (F 0), .string (F 1), .string (F 2), .string (F 3)] t (0, 0))) :
    w.cell? ⟨b, 0, none⟩ = some (.string (F 0)) ∧ w.cell? ⟨b, 1, none⟩ = some (.string (F 1)) ∧ w.cell? ⟨b, 2, none⟩ = some (.string (F 2)) ∧ w.cell? ⟨b, 3, none⟩ = some (.string (F 3)) := by
  simp [World.cell?, h]
/-- a write keeps what is kept -/
theorem step_keeps (K : Dk.Fl) (ws : List Dk.W) (kd f : Int) (s : ByteArray) (n : Int) (h : kd = 0 ∨ kd = 1) : (Dk.step Dk.more K ws kd f s n).1 = K := by
  unfold Dk.step
  rcases h with rfl | rfl
  · rw [if_pos rfl]
  · rw [if_neg (by decide), if_pos rfl]

/-- what stands ahead of each round of the second loop -/
def Syn (w wr : World) (base b R : Nat) (G : Dk.Fl) (k : Nat) : Prop :=
  Kept w wr ∧ wr.heap[R]? = some (.cells #[.string (G 0), .string (G 1), .string (G 2), .string (G 3)] 26 (0, 0)) ∧ R ≠ b ∧ ∃ v ws, Dsk wr base b G v ws ∧ ws.length ≤ k

theorem Syn.kept {w wr w' : World} {base b R : Nat} {G : Dk.Fl} {k : Nat} (h : Syn w wr base b R G k) (q : Kept wr w') : Syn w w' base b R G k := by
  obtain ⟨h1, h2, h3, v, ws, x, hl⟩ := h
  exact ⟨h1.trans q, (Below.block q _ (heap_lt h2)).trans h2, h3, v, ws, x.kept q, hl⟩
theorem Syn.four {w wr : World} {base b R : Nat} {G : Dk.Fl} {k : Nat} (h : Syn w wr base b R G k) (w' : World) (q : Kept wr w') :
    w'.cell? ⟨R, 0, none⟩ = some (.string (G 0)) ∧ w'.cell? ⟨R, 1, none⟩ = some (.string (G 1)) ∧ w'.cell? ⟨R, 2, none⟩ = some (.string (G 2)) ∧ w'.cell? ⟨R, 3, none⟩ = some (.string (G 3)) := strcells (h.kept q).2.1
theorem Syn.kept_is {w wr w' : World} {base b R : Nat} {G : Dk.Fl} {k : Nat} (h : Syn w wr base b R G k) (q : Kept wr w') (f : Int) (t : ByteArray) (ht : (if 0 ≤ f ∧ f < 4 then G f.toNat else ⟨#[]⟩) = t) :
    Calls Try.prog 20 #[.pointer (some ⟨b, 0, none⟩), .int .i64 f] w' fun e w'' => e = .returned (.string t) ∧ Kept w' w'' := by
  obtain ⟨_, _, _, v, ws, x, _⟩ := h.kept q
  exact Go.Proofs.Ytedenkgjdmcafaa.kept_is f t w' x ht

set_option maxHeartbeats 4000000 in
set_option maxRecDepth 100000 in
theorem dsyncs_walk (av : Option Addr) (len cap : Nat) (z : Nat → OpV) (av2 : Option Addr) (len2 cap2 : Nat) (z2 : Nat → OpV) (w : World) (hz : OpArg w av len cap z) (hz2 : OpArg w av2 len2 cap2 z2) :
    Calls Try.prog 7 #[.slice av len cap, .slice av2 len2 cap2] w fun e w' => e = .returned (.bool true) ∧ Kept w w' := by
  have HZ := Lib.hid hz
  have hl1 := hz.1
  have hl2 := hz.2.1
  have HZ2 := Lib.hid hz2
  have hl3 := hz2.1
  have hl4 := hz2.2.1
  unfold maxLen at hl2 hl4
  clear hz hz2
  go_enter Try.func7, Try.ntmps7
  go_wp2_with fail
  refine (new_disk _).mono ?_
  rintro e w1 ⟨rfl, x1, k1⟩
  obtain ⟨base, hbase⟩ : ∃ base, base = w.heap.size := ⟨_, rfl⟩
  rw [← hbase] at x1 ⊢
  obtain ⟨b, hb⟩ : ∃ b, b = base := ⟨_, rfl⟩
  have x1 : Dsk w1 base b dk0 (.slice none 0 0) [] := by rw [hb]; exact x1
  rw [show (Value.pointer (some ⟨base, 0, none⟩)) = .pointer (some ⟨b, 0, none⟩) by rw [hb]]
  have HB : Hid (w.heap.size ≤ base) := by show _ ≤ _; omega
  have X1 := Lib.hid x1
  have K1 := Lib.hid k1
  clear x1 k1 hb hbase
  go_wp2
  go_loopw [6] (fun i wr => ∃ k : Nat, k ≤ len ∧ k ≤ 60 ∧ i = .int .i64 k ∧ Hid (Kept w wr ∧ ∃ K v ws, Dsk wr base b K v ws ∧ ws.length ≤ k)) (fun i _ => 60 - (intOf i).toNat)
  case atStart => exact ⟨0, Nat.zero_le _, Nat.zero_le _, rfl, K1.out, _, _, _, X1.out, Nat.zero_le _⟩
  case round =>
    obtain ⟨k, hk, hk60, rfl, HR⟩ := hrel
    by_cases hlt : k < len ∧ k < 60
    · obtain ⟨hlt1, hlt2⟩ := hlt
      obtain ⟨kr, K, v, ws, x, hwl⟩ := HR.out
      have X := Lib.hid x
      have KR := Lib.hid kr
      obtain ⟨B, off, rfl, c0, c1, c2, c3, hs, n0, n1⟩ := HZ.out.cells kr hlt1
      clear x kr HR
      generalize (z k).kind = kd at c0
      generalize (z k).file = f at c1
      generalize (z k).s = S at c2 hs
      generalize (z k).n = m at c3 n0 n1
      go_wp2_with fail
      refine (play_any kd f S m _ X.out (by omega) hs n0 n1).mono ?_
      rintro e w2 ⟨rfl, p⟩
      generalize Dk.step Dk.more K ws kd f (Dk.cut S) m = r at p ⊢
      obtain ⟨v', y, hl, _, fr⟩ := p
      have Y : Hid (Kept w w2 ∧ ∃ K v ws, Dsk w2 base b K v ws ∧ ws.length ≤ k + 1) := ⟨X.out.still HB.out KR.out fr, _, _, _, y, by omega⟩
      clear y fr X KR c0 c1 c2 c3
      go_wp2
      go_roundw
      case rel => exact ⟨k + 1, by omega, by omega, by go_num, Y.out⟩
      case measure => simp [intOf]; omega
    · obtain ⟨kr, K, v, ws, x, hwl⟩ := HR.out
      have X := Lib.hid x
      have KR := Lib.hid kr
      clear x kr HR X1 K1 HZ
      have h6 : len ≤ k ∨ 60 ≤ k := by omega
      go_wp2_with fail
      all_goals
        clear h6 hlt hl1 hl2
        refine (sync_disk _ X.out).mono ?_
        rintro e w2 ⟨rfl, x2, f2⟩
        obtain ⟨G, hG⟩ : ∃ G, G = Dk.after K ws (Dk.total ws) := ⟨_, rfl⟩
        rw [← hG] at x2
        have hwb : w.heap.size ≤ b := Nat.le_trans HB.out X.out.low
        have X2 := Lib.hid x2
        have K2 := Lib.hid (But.after KR.out f2 fun i hi h => by omega)
        clear x2 f2 hG hwb X KR hwl
        go_wp2_with fail
        refine (read_is 0 (G 0) _ X2.out rfl).mono ?_
        rintro e r1 ⟨rfl, k0⟩
        have R1 := Lib.hid k0
        clear k0
        go_wp2_with fail
        refine (read_is 1 (G 1) _ (X2.out.kept R1.out) rfl).mono ?_
        rintro e r2 ⟨rfl, k0⟩
        have R2 := Lib.hid (R1.out.trans k0)
        clear k0 R1
        go_wp2_with fail
        refine (read_is 2 (G 2) _ (X2.out.kept R2.out) rfl).mono ?_
        rintro e r3 ⟨rfl, k0⟩
        have R3 := Lib.hid (R2.out.trans k0)
        clear k0 R2
        go_wp2_with fail
        refine (read_is 3 (G 3) _ (X2.out.kept R3.out) rfl).mono ?_
        rintro e r4 ⟨rfl, k0⟩
        have R4 := Lib.hid (R3.out.trans k0)
        clear k0 R3
        have hR : b < r4.heap.size := heap_lt (X2.out.kept R4.out).blk
        have S4 : Hid (Syn w (r4.alloc (.cells #[.string (G 0), .string (G 1), .string (G 2), .string (G 3)] 26)) base b r4.heap.size G 0) :=
          ⟨(K2.out.trans R4.out).alloc _, heap_alloc_new r4 _, by omega, _, _, (X2.out.kept R4.out).kept ((Kept.refl _).alloc _), Nat.zero_le _⟩
        clear X2 K2 R4 hR
        go_wp2
        generalize r4.alloc (.cells #[.string (G 0), .string (G 1), .string (G 2), .string (G 3)] 26) = W4 at S4 ⊢
        generalize r4.heap.size = R at S4 ⊢
        go_loopw [8] (fun i wr => ∃ j : Nat, j ≤ len2 ∧ j ≤ 60 ∧ i = .int .i64 j ∧ Hid (Syn w wr base b R G j)) (fun i _ => 60 - (intOf i).toNat)
        case atStart => exact ⟨0, Nat.zero_le _, Nat.zero_le _, rfl, S4⟩
        case round =>
        obtain ⟨j, hj, hj60, rfl, HR⟩ := hrel
        by_cases hlt : j < len2 ∧ j < 60
        · obtain ⟨hlt1, hlt2⟩ := hlt
          obtain ⟨kr, hRb, hne, v', ws', x, hwl⟩ := HR.out
          have X := Lib.hid x
          have KR := Lib.hid kr
          have RB := Lib.hid hRb
          have HNE := Lib.hid hne
          obtain ⟨B, off, rfl, c0, c1, c2, c3, hs, n0, n1⟩ := HZ2.out.cells kr hlt1
          clear x kr HR hRb hne
          generalize (z2 j).kind = kd at c0
          generalize (z2 j).file = f at c1
          generalize (z2 j).s = S at c2 hs
          generalize (z2 j).n = m at c3 n0 n1
          have PL : Hid (kd = 0 ∨ kd = 1 → Calls Try.prog 14 #[.pointer (some ⟨b, 0, none⟩), .agg #[.int .i64 kd, .int .i64 f, .string S, .int .i64 m]] wr fun e w' => (∃ a : Int, e = .returned (.int .i64 a)) ∧ Hid (Syn w w' base b R G (j + 1))) := fun hkd => by
            refine (play_any kd f S m _ X.out (by omega) hs n0 n1).mono ?_
            rintro e w2 ⟨rfl, p⟩
            have hk := step_keeps G ws' kd f (Dk.cut S) m hkd
            generalize Dk.step Dk.more G ws' kd f (Dk.cut S) m = r at p hk ⊢
            obtain ⟨v3, y, hl, _, fr⟩ := p
            rw [hk] at y
            refine ⟨⟨_, rfl⟩, X.out.still HB.out KR.out fr, fr.at RB.out ?_, HNE.out, v3, _, y, by omega⟩
            rintro (e | e)
            · exact HNE.out e
            · obtain ⟨_, cur, hg⟩ := X.out.row.blk e
              have := RB.out
              rw [hg] at this
              cases this
          have ST : ∀ wr, Hid (Syn w wr base b R G j) → Hid (Syn w wr base b R G (j + 1)) := fun wr h => ⟨h.out.1, h.out.2.1, h.out.2.2.1, by
            obtain ⟨v, ws, x, hl⟩ := h.out.2.2.2
            exact ⟨v, ws, x, by omega⟩⟩
          by_cases h0 : kd = 0
          · subst h0
            go_wp2_with fail
            refine (PL.out (by simp)).mono ?_
            rintro e wa ⟨⟨a, rfl⟩, SA⟩
            clear X KR RB HNE PL ST c0 c1 c2 c3
            go_wp2_with fail
            have DR : Kept wa wa.drew := (Kept.refl _).drew
            have KI0 : Hid (∀ w', Kept wa w' → Calls Try.prog 20 #[.pointer (some ⟨b, 0, none⟩), .int .i64 0] w' fun e w'' => e = .returned (.string (G 0)) ∧ Kept w' w'') := fun w' q => SA.out.kept_is q 0 (G 0) (kept_at G 0 (by decide))
            have KI1 : Hid (∀ w', Kept wa w' → Calls Try.prog 20 #[.pointer (some ⟨b, 0, none⟩), .int .i64 1] w' fun e w'' => e = .returned (.string (G 1)) ∧ Kept w' w'') := fun w' q => SA.out.kept_is q 1 (G 1) (kept_at G 1 (by decide))
            have KI2 : Hid (∀ w', Kept wa w' → Calls Try.prog 20 #[.pointer (some ⟨b, 0, none⟩), .int .i64 2] w' fun e w'' => e = .returned (.string (G 2)) ∧ Kept w' w'') := fun w' q => SA.out.kept_is q 2 (G 2) (kept_at G 2 (by decide))
            have KI3 : Hid (∀ w', Kept wa w' → Calls Try.prog 20 #[.pointer (some ⟨b, 0, none⟩), .int .i64 3] w' fun e w'' => e = .returned (.string (G 3)) ∧ Kept w' w'') := fun w' q => SA.out.kept_is q 3 (G 3) (kept_at G 3 (by decide))
            go_region_held3 (fun w' => w'.cell? ⟨R, 0, none⟩ = some (.string (G 0)) ∧ w'.cell? ⟨R, 1, none⟩ = some (.string (G 1)) ∧ w'.cell? ⟨R, 2, none⟩ = some (.string (G 2)) ∧ w'.cell? ⟨R, 3, none⟩ = some (.string (G 3)))
              (first | exact SA.out.four _ DR | exact SA.out.four _ q1 | exact SA.out.four _ q2 | exact SA.out.four _ q3 | exact SA.out.four _ q4)
              (first
                | (go_at_call 20; ((with_reducible refine (KI0.out _ DR).mono ?_); rintro e r1 ⟨rfl, k⟩; have q1 := DR.trans k))
                | (go_at_call 20; ((with_reducible refine (KI1.out _ q1).mono ?_); rintro e r2 ⟨rfl, k⟩; have q2 := q1.trans k))
                | (go_at_call 20; ((with_reducible refine (KI2.out _ q2).mono ?_); rintro e r3 ⟨rfl, k⟩; have q3 := q2.trans k))
                | (go_at_call 20; ((with_reducible refine (KI3.out _ q3).mono ?_); rintro e r4 ⟨rfl, k⟩; have q4 := q3.trans k)))
            have SB := Lib.hid (SA.out.kept q4)
            clear DR KI0 KI1 KI2 KI3 SA q1 q2 q3 q4
            go_wp2
            go_roundw
            case rel => exact ⟨j + 1, by omega, by omega, by go_num, SB.out⟩
            case measure => simp [intOf]; omega
          by_cases h1 : kd = 1
          · clear h0
            subst h1
            go_wp2_with fail
            refine (PL.out (by simp)).mono ?_
            rintro e wa ⟨⟨a, rfl⟩, SA⟩
            clear X KR RB HNE PL ST c0 c1 c2 c3
            go_wp2_with fail
            have DR : Kept wa wa.drew := (Kept.refl _).drew
            have KI0 : Hid (∀ w', Kept wa w' → Calls Try.prog 20 #[.pointer (some ⟨b, 0, none⟩), .int .i64 0] w' fun e w'' => e = .returned (.string (G 0)) ∧ Kept w' w'') := fun w' q => SA.out.kept_is q 0 (G 0) (kept_at G 0 (by decide))
            have KI1 : Hid (∀ w', Kept wa w' → Calls Try.prog 20 #[.pointer (some ⟨b, 0, none⟩), .int .i64 1] w' fun e w'' => e = .returned (.string (G 1)) ∧ Kept w' w'') := fun w' q => SA.out.kept_is q 1 (G 1) (kept_at G 1 (by decide))
            have KI2 : Hid (∀ w', Kept wa w' → Calls Try.prog 20 #[.pointer (some ⟨b, 0, none⟩), .int .i64 2] w' fun e w'' => e = .returned (.string (G 2)) ∧ Kept w' w'') := fun w' q => SA.out.kept_is q 2 (G 2) (kept_at G 2 (by decide))
            have KI3 : Hid (∀ w', Kept wa w' → Calls Try.prog 20 #[.pointer (some ⟨b, 0, none⟩), .int .i64 3] w' fun e w'' => e = .returned (.string (G 3)) ∧ Kept w' w'') := fun w' q => SA.out.kept_is q 3 (G 3) (kept_at G 3 (by decide))
            go_region_held3 (fun w' => w'.cell? ⟨R, 0, none⟩ = some (.string (G 0)) ∧ w'.cell? ⟨R, 1, none⟩ = some (.string (G 1)) ∧ w'.cell? ⟨R, 2, none⟩ = some (.string (G 2)) ∧ w'.cell? ⟨R, 3, none⟩ = some (.string (G 3)))
              (first | exact SA.out.four _ DR | exact SA.out.four _ q1 | exact SA.out.four _ q2 | exact SA.out.four _ q3 | exact SA.out.four _ q4)
              (first
                | (go_at_call 20; ((with_reducible refine (KI0.out _ DR).mono ?_); rintro e r1 ⟨rfl, k⟩; have q1 := DR.trans k))
                | (go_at_call 20; ((with_reducible refine (KI1.out _ q1).mono ?_); rintro e r2 ⟨rfl, k⟩; have q2 := q1.trans k))
                | (go_at_call 20; ((with_reducible refine (KI2.out _ q2).mono ?_); rintro e r3 ⟨rfl, k⟩; have q3 := q2.trans k))
                | (go_at_call 20; ((with_reducible refine (KI3.out _ q3).mono ?_); rintro e r4 ⟨rfl, k⟩; have q4 := q3.trans k)))
            have SB := Lib.hid (SA.out.kept q4)
            clear DR KI0 KI1 KI2 KI3 SA q1 q2 q3 q4
            go_wp2
            go_roundw
            case rel => exact ⟨j + 1, by omega, by omega, by go_num, SB.out⟩
            case measure => simp [intOf]; omega
          · have e0 : (kd == 0) = false := by rw [beq_eq_false_iff_ne]; exact h0
            have e1 : (kd == 1) = false := by rw [beq_eq_false_iff_ne]; exact h1
            have SA : Hid (Syn w wr base b R G (j + 1)) := ST wr ⟨KR.out, RB.out, HNE.out, v', ws', X.out, hwl⟩
            clear X KR RB HNE PL ST c1 c2 c3 h0 h1
            go_wp2_with fail
            clear c0
            have DR : Kept wr wr.drew := (Kept.refl _).drew
            have KI0 : Hid (∀ w', Kept wr w' → Calls Try.prog 20 #[.pointer (some ⟨b, 0, none⟩), .int .i64 0] w' fun e w'' => e = .returned (.string (G 0)) ∧ Kept w' w'') := fun w' q => SA.out.kept_is q 0 (G 0) (kept_at G 0 (by decide))
            have KI1 : Hid (∀ w', Kept wr w' → Calls Try.prog 20 #[.pointer (some ⟨b, 0, none⟩), .int .i64 1] w' fun e w'' => e = .returned (.string (G 1)) ∧ Kept w' w'') := fun w' q => SA.out.kept_is q 1 (G 1) (kept_at G 1 (by decide))
            have KI2 : Hid (∀ w', Kept wr w' → Calls Try.prog 20 #[.pointer (some ⟨b, 0, none⟩), .int .i64 2] w' fun e w'' => e = .returned (.string (G 2)) ∧ Kept w' w'') := fun w' q => SA.out.kept_is q 2 (G 2) (kept_at G 2 (by decide))
            have KI3 : Hid (∀ w', Kept wr w' → Calls Try.prog 20 #[.pointer (some ⟨b, 0, none⟩), .int .i64 3] w' fun e w'' => e = .returned (.string (G 3)) ∧ Kept w' w'') := fun w' q => SA.out.kept_is q 3 (G 3) (kept_at G 3 (by decide))
            go_region_held3 (fun w' => w'.cell? ⟨R, 0, none⟩ = some (.string (G 0)) ∧ w'.cell? ⟨R, 1, none⟩ = some (.string (G 1)) ∧ w'.cell? ⟨R, 2, none⟩ = some (.string (G 2)) ∧ w'.cell? ⟨R, 3, none⟩ = some (.string (G 3)))
              (first | exact SA.out.four _ DR | exact SA.out.four _ q1 | exact SA.out.four _ q2 | exact SA.out.four _ q3 | exact SA.out.four _ q4)
              (first
                | (go_at_call 20; ((with_reducible refine (KI0.out _ DR).mono ?_); rintro e r1 ⟨rfl, k⟩; have q1 := DR.trans k))
                | (go_at_call 20; ((with_reducible refine (KI1.out _ q1).mono ?_); rintro e r2 ⟨rfl, k⟩; have q2 := q1.trans k))
                | (go_at_call 20; ((with_reducible refine (KI2.out _ q2).mono ?_); rintro e r3 ⟨rfl, k⟩; have q3 := q2.trans k))
                | (go_at_call 20; ((with_reducible refine (KI3.out _ q3).mono ?_); rintro e r4 ⟨rfl, k⟩; have q4 := q3.trans k)))
            have SB := Lib.hid (SA.out.kept q4)
            clear DR KI0 KI1 KI2 KI3 SA q1 q2 q3 q4
            go_wp2
            go_roundw
            case rel => exact ⟨j + 1, by omega, by omega, by go_num, SB.out⟩
            case measure => simp [intOf]; omega
        · have SA := HR
          have h6 : len2 ≤ j ∨ 60 ≤ j := by omega
          clear HR HZ2 hlt
          obtain ⟨kr, hRb, hne, v', ws', x, hwl⟩ := SA.out
          have hwb : w.heap.size ≤ b := Nat.le_trans HB.out x.low
          have X := Lib.hid x
          have KR := Lib.hid kr
          have RB := Lib.hid hRb
          have HNE := Lib.hid hne
          clear x kr hRb hne hwl SA
          go_wp2_with fail
          all_goals
            clear h6
            refine (crash_fine (K' := G) 0 0 _ X.out (by omega) (by omega) (by omega) (Dk.after_zero G ws')).mono ?_
            rintro e w5 ⟨rfl, x5, f5⟩
            have X5 := Lib.hid x5
            have K5 := Lib.hid (But.after KR.out f5 fun i hi h => by omega)
            have RB5 := f5.at RB.out HNE.out
            have FS : Hid (∀ w', Kept w5 w' → w'.cell? ⟨R, 0, none⟩ = some (.string (G 0)) ∧ w'.cell? ⟨R, 1, none⟩ = some (.string (G 1)) ∧ w'.cell? ⟨R, 2, none⟩ = some (.string (G 2)) ∧ w'.cell? ⟨R, 3, none⟩ = some (.string (G 3))) := fun w' q => strcells ((Below.block q _ (heap_lt RB5)).trans RB5)
            have KI0 : Hid (∀ w', Kept w5 w' → Calls Try.prog 18 #[.pointer (some ⟨b, 0, none⟩), .int .i64 0] w' fun e w'' => e = .returned (.string (G 0)) ∧ Kept w' w'') := fun w' q => read_is 0 (G 0) w' (X5.out.kept q) (now_nil G 0 (by decide))
            have KI1 : Hid (∀ w', Kept w5 w' → Calls Try.prog 18 #[.pointer (some ⟨b, 0, none⟩), .int .i64 1] w' fun e w'' => e = .returned (.string (G 1)) ∧ Kept w' w'') := fun w' q => read_is 1 (G 1) w' (X5.out.kept q) (now_nil G 1 (by decide))
            have KI2 : Hid (∀ w', Kept w5 w' → Calls Try.prog 18 #[.pointer (some ⟨b, 0, none⟩), .int .i64 2] w' fun e w'' => e = .returned (.string (G 2)) ∧ Kept w' w'') := fun w' q => read_is 2 (G 2) w' (X5.out.kept q) (now_nil G 2 (by decide))
            have KI3 : Hid (∀ w', Kept w5 w' → Calls Try.prog 18 #[.pointer (some ⟨b, 0, none⟩), .int .i64 3] w' fun e w'' => e = .returned (.string (G 3)) ∧ Kept w' w'') := fun w' q => read_is 3 (G 3) w' (X5.out.kept q) (now_nil G 3 (by decide))
            clear x5 f5 RB5 X KR RB HNE hwb X5
            go_wp2_with fail
            have DR : Kept w5 w5.drew := (Kept.refl _).drew
            go_region_held3 (fun w' => w'.cell? ⟨R, 0, none⟩ = some (.string (G 0)) ∧ w'.cell? ⟨R, 1, none⟩ = some (.string (G 1)) ∧ w'.cell? ⟨R, 2, none⟩ = some (.string (G 2)) ∧ w'.cell? ⟨R, 3, none⟩ = some (.string (G 3)))
              (first | exact FS.out _ DR | exact FS.out _ q1 | exact FS.out _ q2 | exact FS.out _ q3 | exact FS.out _ q4 | exact FS.out _ q5)
              (first
                | (go_at_call 18; ((with_reducible refine (KI0.out _ DR).mono ?_); rintro e r1 ⟨rfl, k⟩; have q1 := DR.trans k))
                | (go_at_call 18; ((with_reducible refine (KI1.out _ q1).mono ?_); rintro e r2 ⟨rfl, k⟩; have q2 := q1.trans k))
                | (go_at_call 18; ((with_reducible refine (KI2.out _ q2).mono ?_); rintro e r3 ⟨rfl, k⟩; have q3 := q2.trans k))
                | (go_at_call 18; ((with_reducible refine (KI3.out _ q3).mono ?_); rintro e r4 ⟨rfl, k⟩; have q4 := q3.trans k))
                | (go_at_call 22; refine (fix_any _).mono ?_; rintro e r5 ⟨rfl, k⟩; have q5 := q4.trans k))
            have Q5 := Lib.hid (K5.out.trans q5)
            clear q1 q2 q3 q4 q5 DR FS KI0 KI1 KI2 KI3 K5
            go_wp2
            go_ret
            exact ⟨rfl, Q5.out⟩
end Go.Proofs.Ytedenkgjdmcafaa
