/-
  The walk of the law MailTurns.
-/
import Derived.Test.YtcachpcefeoolaaMoff
import Derived.Test.YtcachpcefeoolaaKslice
namespace Go.Proofs.Ytcachpcefeoolaa
open Go.ChangeShapes Go.WideShapes Go.ChangeAt Go.RowKit

/-- the first k texts -/
def firsts (z : Nat → ByteArray) (k : Nat) : List ByteArray := (List.range k).map z
theorem firsts_succ (z : Nat → ByteArray) (k : Nat) : firsts z (k + 1) = firsts z k ++ [z k] := by simp [firsts, List.range_succ]
theorem firsts_len (z : Nat → ByteArray) (k : Nat) : (firsts z k).length = k := by simp [firsts]
theorem strarg_strs {W : World} {av : Option Addr} {len cap : Nat} {z : Nat → ByteArray} (h : StrArg W av len cap z) (n : Nat) (hn : n ≤ len) : Strs W (.slice av n cap) (txs (firsts z n)) := by
  obtain ⟨h1, h2, h3, h4⟩ := h
  refine ⟨av, cap, by rw [txs_len, firsts_len], by rw [txs_len, firsts_len]; omega, h2, ?_⟩
  by_cases h0 : n = 0
  · subst h0; exact .inl rfl
  · obtain ⟨b, off, rfl, hb, hc⟩ := h4.resolve_left (by omega)
    refine .inr ⟨b, off, rfl, hb, fun i x hx => ?_⟩
    have hi : i < n := by
      rcases Nat.lt_or_ge i n with hlt | hge
      · exact hlt
      · rw [List.getElem?_eq_none (by rw [txs_len, firsts_len]; exact hge)] at hx; cases hx
    rw [hc i (by omega)]
    simp [txs, firsts, hi] at hx
    subst hx
    simp [str]

theorem tw_some (f : Nat) (hf : f < 2) (la lb : List ByteArray) (h : 0 < la.length + lb.length) : ∃ at_ s la' lb', tw f la lb = ⟨at_, s, true, la', lb'⟩ ∧ (at_ = 0 ∧ la = s :: la' ∧ lb' = lb ∨ at_ = 1 ∧ lb = s :: lb' ∧ la' = la) ∧ (0 < la.length → 0 < lb.length → at_ = f) := by
  match f, hf with
  | 0, _ =>
    match la, lb with
    | x :: t, lb => exact ⟨0, x, t, lb, rfl, .inl ⟨rfl, rfl, rfl⟩, fun _ _ => rfl⟩
    | [], x :: t => exact ⟨1, x, [], t, rfl, .inr ⟨rfl, rfl, rfl⟩, fun h _ => absurd h (Nat.lt_irrefl 0)⟩
    | [], [] => exact absurd h (Nat.lt_irrefl 0)
  | 1, _ =>
    match la, lb with
    | la, x :: t => exact ⟨1, x, la, t, by cases la <;> rfl, .inr ⟨rfl, rfl, rfl⟩, fun _ _ => rfl⟩
    | x :: t, [] => exact ⟨0, x, t, [], rfl, .inl ⟨rfl, rfl, rfl⟩, fun _ h => absurd h (Nat.lt_irrefl 0)⟩
    | [], [] => exact absurd h (Nat.lt_irrefl 0)
theorem tw_none (f : Nat) (hf : f < 2) : tw f [] [] = ⟨0, ⟨#[]⟩, false, [], []⟩ := by
  match f, hf with
  | 0, _ => rfl
  | 1, _ => rfl

set_option maxHeartbeats 2000000 in
set_option maxRecDepth 100000 in
theorem mturns_walk (av : Option Addr) (len cap : Nat) (z : Nat → ByteArray) (av' : Option Addr) (len' cap' : Nat) (z' : Nat → ByteArray) (w : World) (hl : StrArg w av len cap z) (hl' : StrArg w av' len' cap' z')
    (hs : ∀ i, i < len → (z i).size ≤ 140737488351232) (hs' : ∀ i, i < len' → (z' i).size ≤ 140737488351232) :
    Calls Try.prog 6 #[.slice av len cap, .slice av' len' cap'] w fun e w' => e = .returned (.bool true) ∧ Kept w w' := by
  have HL := Lib.hid hl
  have HL' := Lib.hid hl'
  have HS := Lib.hid hs
  have HS' := Lib.hid hs'
  have l1 := hl.1
  have l1' := hl'.1
  have l2 := hl.2.1
  have l2' := hl'.2.1
  unfold maxLen at l2 l2'
  clear hl hl' hs hs'
  obtain ⟨n, hn⟩ : ∃ n : Nat, min (len : Int) 8 = (n : Int) := ⟨min len 8, by omega⟩
  obtain ⟨n', hn'⟩ : ∃ n : Nat, min (len' : Int) 8 = (n : Int) := ⟨min len' 8, by omega⟩
  have b1 : n ≤ len := by omega
  have b2 : n ≤ 8 := by omega
  have b1' : n' ≤ len' := by omega
  have b2' : n' ≤ 8 := by omega
  go_enter Try.func6, Try.ntmps6
  go_wp2_with fail
  refine (new_ok 8 w (by decide) (by decide)).mono ?_
  rintro e w1 ⟨b, c, rfl, hb, hc, x1, k1⟩
  have X1 := Lib.hid x1
  have K1 := Lib.hid k1
  clear x1 k1
  go_wp2_with fail
  refine (new_ok 8 _ (by decide) (by decide)).mono ?_
  rintro e w2 ⟨d, dc, rfl, hd, hdc, y2, k2⟩
  have X2 := Lib.hid (X1.out.kept k2)
  have Y2 := Lib.hid y2
  have K2 := Lib.hid (K1.out.trans k2)
  have hcc : dc ≠ c := by have := X1.out.ch.lt; omega
  have hdw : w.heap.size ≤ dc := Nat.le_trans K1.out.size hdc
  clear y2 k2 X1 K1
  go_wp2
  go_loopw [9] (fun i wr => ∃ k : Nat, k ≤ n ∧ i = .int .i64 k ∧ Bx wr b c 8 (firsts z k) ∧ Bx wr d dc 8 [] ∧ Kept w wr) (fun i _ => n - (intOf i).toNat)
  case atStart => exact ⟨0, Nat.zero_le _, rfl, X2.out, Y2.out, K2.out⟩
  case round =>
    obtain ⟨k, hk, rfl, hx, hy, hkr⟩ := hrel
    have X := Lib.hid hx
    have Y := Lib.hid hy
    have K := Lib.hid hkr
    clear hx hy hkr
    by_cases hlt : k < n
    · obtain ⟨B, off, rfl, hB, hc⟩ := HL.out.2.2.2.resolve_left (by omega)
      have d0 := (Below.cell K.out (p := ⟨B, off + k, none⟩) hB).trans (hc k (by omega))
      have hz := HS.out k (by omega)
      have HF := Lib.hid (firsts_succ z k)
      clear hc
      generalize z k = S at d0 hz HF
      go_wp2_with fail
      refine (put_room b c 8 _ S _ X.out (by omega) (by rw [firsts_len]; omega)).mono ?_
      rintro e w3 ⟨rfl, x3, b3⟩
      have X3 := Lib.hid x3
      have Y3 := Lib.hid (Y.out.over X.out hcc b3)
      have K3 := Lib.hid (But.after K.out b3 fun i hi h => by omega)
      clear x3 b3 X Y K
      go_wp2
      go_roundw
      case rel => exact ⟨k + 1, by omega, by go_num, by rw [HF.out]; exact X3.out, Y3.out, K3.out⟩
      case measure => simp [intOf]; omega
    · have hkn : k = n := by omega
      subst hkn
      clear X2 Y2 K2
      go_wp2
      go_loopw [10] (fun i wr2 => ∃ j : Nat, j ≤ n' ∧ i = .int .i64 j ∧ Bx wr2 b c 8 (firsts z k) ∧ Bx wr2 d dc 8 (firsts z' j) ∧ Kept w wr2) (fun i _ => n' - (intOf i).toNat)
      case atStart => exact ⟨0, Nat.zero_le _, rfl, X.out, Y.out, K.out⟩
      case round =>
        obtain ⟨j, hj, rfl, hx, hy, hkr⟩ := hrel
        clear X Y K
        have X := Lib.hid hx
        have Y := Lib.hid hy
        have K := Lib.hid hkr
        clear hx hy hkr
        by_cases hlt2 : j < n'
        · obtain ⟨B, off, rfl, hB, hc⟩ := HL'.out.2.2.2.resolve_left (by omega)
          have d0 := (Below.cell K.out (p := ⟨B, off + j, none⟩) hB).trans (hc j (by omega))
          have hz := HS'.out j (by omega)
          have HF := Lib.hid (firsts_succ z' j)
          clear hc
          generalize z' j = S at d0 hz HF
          go_wp2_with fail
          refine (put_room d dc 8 _ S _ Y.out (by omega) (by rw [firsts_len]; omega)).mono ?_
          rintro e w3 ⟨rfl, y3, b3⟩
          have Y3 := Lib.hid y3
          have X3 := Lib.hid (X.out.over Y.out hcc.symm b3)
          have K3 := Lib.hid (But.after K.out b3 fun i hi h => by omega)
          clear y3 b3 X Y K
          go_wp2
          go_roundw
          case rel => exact ⟨j + 1, by omega, by go_num, X3.out, by rw [HF.out]; exact Y3.out, K3.out⟩
          case measure => simp [intOf]; omega
        · have hjn : j = n' := by omega
          subst hjn
          go_wp2
          obtain ⟨wi, ewi⟩ : ∃ wi, wi = (wr.alloc (.cells #[] 9)).alloc (.cells #[] 9) := ⟨_, rfl⟩
          have ki : Kept wr wi := by rw [ewi]; exact ((Kept.refl wr).alloc _).alloc _
          have hin0 : OffS wi w.heap.size (.slice (some ⟨wr.heap.size, 0, none⟩) 0 0) [] := by rw [ewi]; exact ((own_empty' wr).off.mono K.out.size).kept ((Kept.refl _).alloc _)
          have hout0 : OffS wi w.heap.size (.slice (some ⟨wr.heap.size + 1, 0, none⟩) 0 0) [] := by
            have := (own_empty' (wr.alloc (.cells #[] 9))).off
            rw [World.size_alloc] at this
            rw [ewi]
            exact this.mono (by have := K.out.size; omega)
          have hap0 : Apart2 (.slice (some ⟨wr.heap.size, 0, none⟩) 0 0) (.slice (some ⟨wr.heap.size + 1, 0, none⟩) 0 0) := by intro i h1 h2; cases h1; simp [Value.ownBlock] at h2
          have Xi := Lib.hid (X.out.kept ki)
          have Yi := Lib.hid (Y.out.kept ki)
          have Ki := Lib.hid (K.out.trans ki)
          have P0 := Lib.hid hin0
          have Q0 := Lib.hid hout0
          have A0 := Lib.hid hap0
          clear hin0 hout0 hap0 X Y K ki hn hn'
          rw [← ewi]
          clear ewi
          go_loopw [11, 12, 13, 14, 15] (fun vp vq vf vl vi wr3 => ∃ (t f : Nat) (lt : Int) (P Q la lb : List ByteArray), t ≤ k + j ∧ vi = .int .i64 t ∧ vf = .int .i64 f ∧ f < 2 ∧ vl = .int .i64 lt ∧ (f : Int) ≠ lt ∧ firsts z k = P ++ la ∧ firsts z' j = Q ++ lb ∧ P.length + Q.length = t ∧
            OffS wr3 w.heap.size vp (txs P) ∧ OffS wr3 w.heap.size vq (txs Q) ∧ Apart2 vp vq ∧ Bx wr3 b c 8 la ∧ Bx wr3 d dc 8 lb ∧ Kept w wr3) (fun _ _ _ _ i _ => k + j - (intOf i).toNat)
          case atStart => exact ⟨0, 0, -1, [], [], firsts z k, firsts z' j, Nat.zero_le _, rfl, rfl, by decide, rfl, by decide, rfl, rfl, rfl, P0.out, Q0.out, A0.out, Xi.out, Yi.out, Ki.out⟩
          case round =>
            clear P0 Q0 A0 Xi Yi Ki
            obtain ⟨t, f, lt, P, Q, la, lb, ht, rfl, rfl, hf, rfl, hfl, hP, hQ, hPQ, op, oq, ap, hx, hy, hkr⟩ := hrel
            have X := Lib.hid hx
            have Y := Lib.hid hy
            have K := Lib.hid hkr
            have OP := Lib.hid op
            have OQ := Lib.hid oq
            have AP := Lib.hid ap
            obtain ⟨a1, c1, rfl⟩ := op.form
            obtain ⟨a2, c2, rfl⟩ := oq.form
            have lP : P.length + la.length = k := by rw [← List.length_append, ← hP, firsts_len]
            have lQ : Q.length + lb.length = j := by rw [← List.length_append, ← hQ, firsts_len]
            have HP := Lib.hid hP
            have HQ := Lib.hid hQ
            have HPQ := Lib.hid hPQ
            have tP := txs_len P
            have tQ := txs_len Q
            have hP8 : P.length ≤ 8 := by omega
            have hQ8 : Q.length ≤ 8 := by omega
            rw [tP, tQ] at AP
            rw [tP] at OP ⊢
            rw [tQ] at OQ ⊢
            clear hx hy hkr op oq ap hP hQ hPQ
            by_cases hlt3 : t < k + j
            · by_cases hA : 0 < la.length
              · by_cases hB : 0 < lb.length
                · go_wp2_with fail
                  refine (len_any b c 8 la _ X.out).mono ?_
                  rintro e wa ⟨rfl, k1⟩
                  have X1 := Lib.hid (X.out.kept k1)
                  have Y1 := Lib.hid (Y.out.kept k1)
                  have K1 := Lib.hid (K.out.trans k1)
                  have OP1 := Lib.hid (OP.out.kept k1)
                  have OQ1 := Lib.hid (OQ.out.kept k1)
                  clear k1 X Y K OP OQ
                  go_wp2_with fail
                  refine (len_any d dc 8 lb _ Y1.out).mono ?_
                  rintro e wb ⟨rfl, k2⟩
                  have X2 := Lib.hid (X1.out.kept k2)
                  have Y2 := Lib.hid (Y1.out.kept k2)
                  have K2 := Lib.hid (K1.out.trans k2)
                  have OP2 := Lib.hid (OP1.out.kept k2)
                  have OQ2 := Lib.hid (OQ1.out.kept k2)
                  clear k2 X1 Y1 K1 OP1 OQ1
                  go_wp2_with fail
                  have kb := (Kept.refl wb).alloc (.cells #[.pointer (some ⟨b, 0, none⟩), .pointer (some ⟨d, 0, none⟩)] 23)
                  refine (turn2 wb.heap.size 2 b c 8 d dc 8 la lb f _ (two_new wb b d) (X2.out.kept kb) (Y2.out.kept kb) hcc).mono ?_
                  rintro e w3 ⟨rfl, x3, y3, b3⟩
                  obtain ⟨at_, s, la', lb', etw, hat, hboth⟩ := tw_some f hf la lb (by have := HPQ.out; omega)
                  rw [etw] at x3 y3 ⊢
                  clear etw
                  rcases hat with ⟨h1, h2, h3⟩ | ⟨h1, h2, h3⟩
                  · subst h1 h2 h3
                    have hne : (((0 : Nat) : Int) == lt) = false := by rw [beq_eq_false_iff_ne, hboth hA hB]; exact hfl
                    have hne2 : ((0 : Int) == lt) = false := by rw [beq_eq_false_iff_ne]; have := hboth hA hB; omega
                    unfold Tw.val
                    simp only at x3 y3
                    have X3 := Lib.hid x3
                    have Y3 := Lib.hid y3
                    have K3 := Lib.hid (But.after (K2.out.trans kb) b3 fun i hi h => by omega)
                    have OP3 := Lib.hid ((OP2.out.kept kb).two (X2.out.kept kb).ch (Y2.out.kept kb).ch b3)
                    have OQ3 := Lib.hid ((OQ2.out.kept kb).two (X2.out.kept kb).ch (Y2.out.kept kb).ch b3)
                    have hb3 : w.heap.size ≤ w3.heap.size := K3.out.size
                    clear x3 y3 b3 kb X2 Y2 K2 OP2 OQ2 hboth
                    have ka := (Kept.refl w3).alloc (.cells #[.string s] 9)
                    go_wp2_with (first
                      | (at_builtin
                         refine wp_app (OP3.out.kept ka) (strs_one w3 s) (by rw [tP]; simp; omega) (by rw [World.size_alloc]; omega) rfl _ _ rfl rfl rfl ?_; intro v4 w4 o4 g4 b4 n4
                         have O4 := Lib.hid o4
                         have G4 := Lib.hid g4
                         have B4 := Lib.hid b4
                         clear o4 g4 b4 n4
                         go_frame)
                      | fail)
                    go_roundw
                    case rel =>
                      refine ⟨t + 1, 1, 0, P ++ [s], Q, _, _, by omega, by go_num, by go_num, by decide, by go_num, by decide, by rw [List.append_assoc, List.singleton_append]; exact HP.out, HQ.out, by have := HPQ.out; rw [List.length_append, List.length_singleton]; omega, by rw [txs_snoc]; exact O4.out, ?_, ?_, ?_, ?_, ?_⟩
                      · exact (OQ3.out.kept ka).other AP.out B4.out
                      · exact AP.out.went G4.out (OQ3.out.kept ka)
                      · exact (X3.out.kept ka).off (OP3.out.kept ka) B4.out
                      · exact (Y3.out.kept ka).off (OP3.out.kept ka) B4.out
                      · exact kept_off (K3.out.trans ka) (OP3.out.kept ka) (Nat.le_refl _) B4.out
                    case measure => simp [intOf]; omega
                  · subst h1 h2 h3
                    have hne : (((1 : Nat) : Int) == lt) = false := by rw [beq_eq_false_iff_ne, hboth hA hB]; exact hfl
                    have hne2 : ((1 : Int) == lt) = false := by rw [beq_eq_false_iff_ne]; have := hboth hA hB; omega
                    unfold Tw.val
                    simp only at x3 y3
                    have X3 := Lib.hid x3
                    have Y3 := Lib.hid y3
                    have K3 := Lib.hid (But.after (K2.out.trans kb) b3 fun i hi h => by omega)
                    have OP3 := Lib.hid ((OP2.out.kept kb).two (X2.out.kept kb).ch (Y2.out.kept kb).ch b3)
                    have OQ3 := Lib.hid ((OQ2.out.kept kb).two (X2.out.kept kb).ch (Y2.out.kept kb).ch b3)
                    have hb3 : w.heap.size ≤ w3.heap.size := K3.out.size
                    clear x3 y3 b3 kb X2 Y2 K2 OP2 OQ2 hboth
                    have ka := (Kept.refl w3).alloc (.cells #[.string s] 9)
                    go_wp2_with (first
                      | (at_builtin
                         refine wp_app (OQ3.out.kept ka) (strs_one w3 s) (by rw [tQ]; simp; omega) (by rw [World.size_alloc]; omega) rfl _ _ rfl rfl rfl ?_; intro v4 w4 o4 g4 b4 n4
                         have O4 := Lib.hid o4
                         have G4 := Lib.hid g4
                         have B4 := Lib.hid b4
                         clear o4 g4 b4 n4
                         go_frame)
                      | fail)
                    go_roundw
                    case rel =>
                      refine ⟨t + 1, 0, 1, P, Q ++ [s], _, _, by omega, by go_num, by go_num, by decide, by go_num, by decide, HP.out, by rw [List.append_assoc, List.singleton_append]; exact HQ.out, by have := HPQ.out; rw [List.length_append, List.length_singleton]; omega, ?_, by rw [txs_snoc]; exact O4.out, ?_, ?_, ?_, ?_⟩
                      · exact (OP3.out.kept ka).other AP.out.symm B4.out
                      · exact (AP.out.symm.went G4.out (OP3.out.kept ka)).symm
                      · exact (X3.out.kept ka).off (OQ3.out.kept ka) B4.out
                      · exact (Y3.out.kept ka).off (OQ3.out.kept ka) B4.out
                      · exact kept_off (K3.out.trans ka) (OQ3.out.kept ka) (Nat.le_refl _) B4.out
                    case measure => simp [intOf]; omega
                · go_wp2_with fail
                  refine (len_any b c 8 la _ X.out).mono ?_
                  rintro e wa ⟨rfl, k1⟩
                  have X1 := Lib.hid (X.out.kept k1)
                  have Y1 := Lib.hid (Y.out.kept k1)
                  have K1 := Lib.hid (K.out.trans k1)
                  have OP1 := Lib.hid (OP.out.kept k1)
                  have OQ1 := Lib.hid (OQ.out.kept k1)
                  clear k1 X Y K OP OQ
                  go_wp2_with fail
                  refine (len_any d dc 8 lb _ Y1.out).mono ?_
                  rintro e wb ⟨rfl, k2⟩
                  have X2 := Lib.hid (X1.out.kept k2)
                  have Y2 := Lib.hid (Y1.out.kept k2)
                  have K2 := Lib.hid (K1.out.trans k2)
                  have OP2 := Lib.hid (OP1.out.kept k2)
                  have OQ2 := Lib.hid (OQ1.out.kept k2)
                  clear k2 X1 Y1 K1 OP1 OQ1
                  go_wp2_with fail
                  have kb := (Kept.refl wb).alloc (.cells #[.pointer (some ⟨b, 0, none⟩), .pointer (some ⟨d, 0, none⟩)] 23)
                  refine (turn2 wb.heap.size 2 b c 8 d dc 8 la lb f _ (two_new wb b d) (X2.out.kept kb) (Y2.out.kept kb) hcc).mono ?_
                  rintro e w3 ⟨rfl, x3, y3, b3⟩
                  obtain ⟨at_, s, la', lb', etw, hat, hboth⟩ := tw_some f hf la lb (by have := HPQ.out; omega)
                  rw [etw] at x3 y3 ⊢
                  clear etw
                  rcases hat with ⟨h1, h2, h3⟩ | ⟨h1, h2, h3⟩
                  · subst h1 h2 h3
                    unfold Tw.val
                    simp only at x3 y3
                    have X3 := Lib.hid x3
                    have Y3 := Lib.hid y3
                    have K3 := Lib.hid (But.after (K2.out.trans kb) b3 fun i hi h => by omega)
                    have OP3 := Lib.hid ((OP2.out.kept kb).two (X2.out.kept kb).ch (Y2.out.kept kb).ch b3)
                    have OQ3 := Lib.hid ((OQ2.out.kept kb).two (X2.out.kept kb).ch (Y2.out.kept kb).ch b3)
                    have hb3 : w.heap.size ≤ w3.heap.size := K3.out.size
                    clear x3 y3 b3 kb X2 Y2 K2 OP2 OQ2 hboth
                    have ka := (Kept.refl w3).alloc (.cells #[.string s] 9)
                    go_wp2_with (first
                      | (at_builtin
                         refine wp_app (OP3.out.kept ka) (strs_one w3 s) (by rw [tP]; simp; omega) (by rw [World.size_alloc]; omega) rfl _ _ rfl rfl rfl ?_; intro v4 w4 o4 g4 b4 n4
                         have O4 := Lib.hid o4
                         have G4 := Lib.hid g4
                         have B4 := Lib.hid b4
                         clear o4 g4 b4 n4
                         go_frame)
                      | fail)
                    go_roundw
                    case rel =>
                      refine ⟨t + 1, 1, 0, P ++ [s], Q, _, _, by omega, by go_num, by go_num, by decide, by go_num, by decide, by rw [List.append_assoc, List.singleton_append]; exact HP.out, HQ.out, by have := HPQ.out; rw [List.length_append, List.length_singleton]; omega, by rw [txs_snoc]; exact O4.out, ?_, ?_, ?_, ?_, ?_⟩
                      · exact (OQ3.out.kept ka).other AP.out B4.out
                      · exact AP.out.went G4.out (OQ3.out.kept ka)
                      · exact (X3.out.kept ka).off (OP3.out.kept ka) B4.out
                      · exact (Y3.out.kept ka).off (OP3.out.kept ka) B4.out
                      · exact kept_off (K3.out.trans ka) (OP3.out.kept ka) (Nat.le_refl _) B4.out
                    case measure => simp [intOf]; omega
                  · subst h1 h2 h3
                    unfold Tw.val
                    simp only at x3 y3
                    have X3 := Lib.hid x3
                    have Y3 := Lib.hid y3
                    have K3 := Lib.hid (But.after (K2.out.trans kb) b3 fun i hi h => by omega)
                    have OP3 := Lib.hid ((OP2.out.kept kb).two (X2.out.kept kb).ch (Y2.out.kept kb).ch b3)
                    have OQ3 := Lib.hid ((OQ2.out.kept kb).two (X2.out.kept kb).ch (Y2.out.kept kb).ch b3)
                    have hb3 : w.heap.size ≤ w3.heap.size := K3.out.size
                    clear x3 y3 b3 kb X2 Y2 K2 OP2 OQ2 hboth
                    have ka := (Kept.refl w3).alloc (.cells #[.string s] 9)
                    go_wp2_with (first
                      | (at_builtin
                         refine wp_app (OQ3.out.kept ka) (strs_one w3 s) (by rw [tQ]; simp; omega) (by rw [World.size_alloc]; omega) rfl _ _ rfl rfl rfl ?_; intro v4 w4 o4 g4 b4 n4
                         have O4 := Lib.hid o4
                         have G4 := Lib.hid g4
                         have B4 := Lib.hid b4
                         clear o4 g4 b4 n4
                         go_frame)
                      | fail)
                    go_roundw
                    case rel =>
                      refine ⟨t + 1, 0, 1, P, Q ++ [s], _, _, by omega, by go_num, by go_num, by decide, by go_num, by decide, HP.out, by rw [List.append_assoc, List.singleton_append]; exact HQ.out, by have := HPQ.out; rw [List.length_append, List.length_singleton]; omega, ?_, by rw [txs_snoc]; exact O4.out, ?_, ?_, ?_, ?_⟩
                      · exact (OP3.out.kept ka).other AP.out.symm B4.out
                      · exact (AP.out.symm.went G4.out (OP3.out.kept ka)).symm
                      · exact (X3.out.kept ka).off (OQ3.out.kept ka) B4.out
                      · exact (Y3.out.kept ka).off (OQ3.out.kept ka) B4.out
                      · exact kept_off (K3.out.trans ka) (OQ3.out.kept ka) (Nat.le_refl _) B4.out
                    case measure => simp [intOf]; omega
              · go_wp2_with fail
                refine (len_any b c 8 la _ X.out).mono ?_
                rintro e wa ⟨rfl, k1⟩
                have X1 := Lib.hid (X.out.kept k1)
                have Y1 := Lib.hid (Y.out.kept k1)
                have K1 := Lib.hid (K.out.trans k1)
                have OP1 := Lib.hid (OP.out.kept k1)
                have OQ1 := Lib.hid (OQ.out.kept k1)
                clear k1 X Y K OP OQ
                have X2 := X1
                have Y2 := Y1
                have K2 := K1
                have OP2 := OP1
                have OQ2 := OQ1
                obtain ⟨wb, ewb⟩ : ∃ wb, wb = wa := ⟨_, rfl⟩
                subst ewb
                clear X1 Y1 K1 OP1 OQ1
                go_wp2_with fail
                have kb := (Kept.refl wb).alloc (.cells #[.pointer (some ⟨b, 0, none⟩), .pointer (some ⟨d, 0, none⟩)] 23)
                refine (turn2 wb.heap.size 2 b c 8 d dc 8 la lb f _ (two_new wb b d) (X2.out.kept kb) (Y2.out.kept kb) hcc).mono ?_
                rintro e w3 ⟨rfl, x3, y3, b3⟩
                obtain ⟨at_, s, la', lb', etw, hat, hboth⟩ := tw_some f hf la lb (by have := HPQ.out; omega)
                rw [etw] at x3 y3 ⊢
                clear etw
                rcases hat with ⟨h1, h2, h3⟩ | ⟨h1, h2, h3⟩
                · subst h1 h2 h3
                  unfold Tw.val
                  simp only at x3 y3
                  have X3 := Lib.hid x3
                  have Y3 := Lib.hid y3
                  have K3 := Lib.hid (But.after (K2.out.trans kb) b3 fun i hi h => by omega)
                  have OP3 := Lib.hid ((OP2.out.kept kb).two (X2.out.kept kb).ch (Y2.out.kept kb).ch b3)
                  have OQ3 := Lib.hid ((OQ2.out.kept kb).two (X2.out.kept kb).ch (Y2.out.kept kb).ch b3)
                  have hb3 : w.heap.size ≤ w3.heap.size := K3.out.size
                  clear x3 y3 b3 kb X2 Y2 K2 OP2 OQ2 hboth
                  have ka := (Kept.refl w3).alloc (.cells #[.string s] 9)
                  go_wp2_with (first
                    | (at_builtin
                       refine wp_app (OP3.out.kept ka) (strs_one w3 s) (by rw [tP]; simp; omega) (by rw [World.size_alloc]; omega) rfl _ _ rfl rfl rfl ?_; intro v4 w4 o4 g4 b4 n4
                       have O4 := Lib.hid o4
                       have G4 := Lib.hid g4
                       have B4 := Lib.hid b4
                       clear o4 g4 b4 n4
                       go_frame)
                    | fail)
                  go_roundw
                  case rel =>
                    refine ⟨t + 1, 1, 0, P ++ [s], Q, _, _, by omega, by go_num, by go_num, by decide, by go_num, by decide, by rw [List.append_assoc, List.singleton_append]; exact HP.out, HQ.out, by have := HPQ.out; rw [List.length_append, List.length_singleton]; omega, by rw [txs_snoc]; exact O4.out, ?_, ?_, ?_, ?_, ?_⟩
                    · exact (OQ3.out.kept ka).other AP.out B4.out
                    · exact AP.out.went G4.out (OQ3.out.kept ka)
                    · exact (X3.out.kept ka).off (OP3.out.kept ka) B4.out
                    · exact (Y3.out.kept ka).off (OP3.out.kept ka) B4.out
                    · exact kept_off (K3.out.trans ka) (OP3.out.kept ka) (Nat.le_refl _) B4.out
                  case measure => simp [intOf]; omega
                · subst h1 h2 h3
                  unfold Tw.val
                  simp only at x3 y3
                  have X3 := Lib.hid x3
                  have Y3 := Lib.hid y3
                  have K3 := Lib.hid (But.after (K2.out.trans kb) b3 fun i hi h => by omega)
                  have OP3 := Lib.hid ((OP2.out.kept kb).two (X2.out.kept kb).ch (Y2.out.kept kb).ch b3)
                  have OQ3 := Lib.hid ((OQ2.out.kept kb).two (X2.out.kept kb).ch (Y2.out.kept kb).ch b3)
                  have hb3 : w.heap.size ≤ w3.heap.size := K3.out.size
                  clear x3 y3 b3 kb X2 Y2 K2 OP2 OQ2 hboth
                  have ka := (Kept.refl w3).alloc (.cells #[.string s] 9)
                  go_wp2_with (first
                    | (at_builtin
                       refine wp_app (OQ3.out.kept ka) (strs_one w3 s) (by rw [tQ]; simp; omega) (by rw [World.size_alloc]; omega) rfl _ _ rfl rfl rfl ?_; intro v4 w4 o4 g4 b4 n4
                       have O4 := Lib.hid o4
                       have G4 := Lib.hid g4
                       have B4 := Lib.hid b4
                       clear o4 g4 b4 n4
                       go_frame)
                    | fail)
                  go_roundw
                  case rel =>
                    refine ⟨t + 1, 0, 1, P, Q ++ [s], _, _, by omega, by go_num, by go_num, by decide, by go_num, by decide, HP.out, by rw [List.append_assoc, List.singleton_append]; exact HQ.out, by have := HPQ.out; rw [List.length_append, List.length_singleton]; omega, ?_, by rw [txs_snoc]; exact O4.out, ?_, ?_, ?_, ?_⟩
                    · exact (OP3.out.kept ka).other AP.out.symm B4.out
                    · exact (AP.out.symm.went G4.out (OP3.out.kept ka)).symm
                    · exact (X3.out.kept ka).off (OQ3.out.kept ka) B4.out
                    · exact (Y3.out.kept ka).off (OQ3.out.kept ka) B4.out
                    · exact kept_off (K3.out.trans ka) (OQ3.out.kept ka) (Nat.le_refl _) B4.out
                  case measure => simp [intOf]; omega
            · have hla : la = [] := List.eq_nil_of_length_eq_zero (by have := HPQ.out; omega)
              have hlb : lb = [] := List.eq_nil_of_length_eq_zero (by have := HPQ.out; omega)
              subst hla hlb
              go_wp2_with fail
              have kb := (Kept.refl wr).alloc (.cells #[.pointer (some ⟨b, 0, none⟩), .pointer (some ⟨d, 0, none⟩)] 23)
              refine (turn2 wr.heap.size 2 b c 8 d dc 8 [] [] f _ (two_new wr b d) (X.out.kept kb) (Y.out.kept kb) hcc).mono ?_
              rw [tw_none f hf]
              rintro e w3 ⟨rfl, x3, y3, b3⟩
              have K3 := Lib.hid (But.after (K.out.trans kb) b3 fun i hi h => by omega)
              have OP3 := Lib.hid ((OP.out.kept kb).two (X.out.kept kb).ch (Y.out.kept kb).ch b3)
              have OQ3 := Lib.hid ((OQ.out.kept kb).two (X.out.kept kb).ch (Y.out.kept kb).ch b3)
              have eP : P = firsts z k := by rw [HP.out, List.append_nil]
              have eQ : Q = firsts z' j := by rw [HQ.out, List.append_nil]
              subst eP eQ
              clear x3 y3 b3 kb X Y K OP OQ
              unfold Tw.val
              go_wp2_with fail
              refine (same_any _ _ _ _ _ OP3.out.strs ((strarg_strs HL.out k b1).kept K3.out)).mono ?_
              rintro e w4 ⟨rfl, k4⟩
              have K4 := Lib.hid (K3.out.trans k4)
              have OQ4 := Lib.hid (OQ3.out.kept k4)
              clear k4 OP3 OQ3 K3
              rw [show (txs (firsts z k) == txs (firsts z k)) = true from by simp]
              go_wp2_with fail
              refine (same_any _ _ _ _ _ OQ4.out.strs ((strarg_strs HL'.out j b1').kept K4.out)).mono ?_
              rintro e w5 ⟨rfl, k5⟩
              have K5 := Lib.hid (K4.out.trans k5)
              clear k5 OQ4 K4
              rw [show (txs (firsts z' j) == txs (firsts z' j)) = true from by simp]
              go_wp2_with fail
              refine (fix_any _).mono ?_
              rintro e w6 ⟨rfl, k6⟩
              have K6 := Lib.hid (K5.out.trans k6)
              clear k6
              go_wp2
              go_ret
              exact ⟨rfl, K6.out⟩
end Go.Proofs.Ytcachpcefeoolaa
