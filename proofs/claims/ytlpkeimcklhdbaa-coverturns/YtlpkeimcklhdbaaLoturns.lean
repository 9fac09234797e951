/-
  The walk of the law CoverTurns.
-/
import Derived.Test.YtlpkeimcklhdbaaOlaw
namespace Go.Proofs.Ytlpkeimcklhdbaa
open Go.ChangeShapes Go.WideShapes Go.ChangeAt Go.RowKit

theorem two_cell (w : World) (p : ByteArray) : ∀ (j : Nat) (u : Value), [Value.string p, Value.string p][j]? = some u → (w.alloc (.cells #[.string p, .string p] 9)).cell? ((⟨w.heap.size, 0, none⟩ : Addr).add j) = some u := by
  intro j u hj
  match j, hj with
  | 0, hj => simp at hj; subst hj; simp [Addr.add]
  | 1, hj => simp at hj; subst hj; simp [Addr.add]

/-- a text twice behind a row of the call's own: a step of a region that draws its order -/
theorem step_twice {w : World} {ops : Array Oper} {o : Oper} {a : Act} {K : Act → World → Prop} {Q : Exit → Act → World → Prop} {E : Prop} {base : Nat} {v : Value} {xs : List (List UInt8)}
    (hown : OwnS w base v xs) (n : Nat) (hn : xs.length = n) (hx : n ≤ 1000001) (hbase : base ≤ w.heap.size) (p : ByteArray) (hgd : o.guard = none) (s x : Operand)
    (ho : o.op = .call { callee := .builtin .append, args := #[s, x], argTypes := #[22, 22] }) (hs : a.eval s = v) (hxe : a.eval x = .slice (some ⟨w.heap.size, 0, none⟩) 2 2)
    (h : ∀ g cap w', OwnN w' base (.slice (some ⟨g, 0, none⟩) (n + 2) cap) (xs ++ [p.data.toList, p.data.toList]) → Below base w w' → K (a.put o.dst (.slice (some ⟨g, 0, none⟩) (n + 2) cap)) w') :
    if Region.wanted o (yielded ops a.tmps) = true then Oper.wp Try.prog o a (w.alloc (.cells #[.string p, .string p] 9)) K Q else E := by
  subst hn
  rw [if_pos (by simp [Region.wanted, hgd])]
  obtain ⟨i0, hi, hz0, hz1, hz2⟩ := info_parts infoStr
  refine wp_append_own _ s x 22 ho base 9 i0 (.string ⟨#[]⟩) 1 16 Try.underlying22 hi hz0 hz1 hz2 rfl (by decide) v xs.length (xs.map str) hs (World.ownsRow.alloc hown _) ⟨w.heap.size, 0, none⟩ 2 2 [.string p, .string p] hxe rfl (two_cell _ _) (fun u hu => by simp at hu; subst hu; rfl) (by unfold maxLen; omega) (by omega) (by simp; omega) ?_
  intro v' w' hown' hgrow _
  obtain ⟨g, cap, rfl⟩ : ∃ g cap, v' = .slice (some ⟨g, 0, none⟩) (xs.length + 2) cap := by
    rcases hown'.2 with ⟨_, h0⟩ | ⟨g, cap, _, rfl, _⟩
    · omega
    · exact ⟨g, cap, rfl⟩
  refine h g cap w' ⟨?_, g, cap, by simp⟩ (((Below.refl base w).alloc hbase _).grown hgrow (by simp; omega) fun k hk => ?_)
  · unfold OwnS
    rw [List.length_append, List.map_append]
    exact hown'
  · rcases hown.2 with ⟨rfl, _⟩ | ⟨g', cap', _, rfl, hb, _⟩
    · cases hk
    · cases hk; exact hb

theorem least_s (B : Nat) {l : List (List UInt8)} (h : ∀ x ∈ l, x.length ≤ B) : ∀ x ∈ Tp.least l, x.length ≤ B := fun x hx => h x (Tp.least_sub hx).1
theorem app_s (B : Nat) {l m : List (List UInt8)} (h1 : ∀ x ∈ l, x.length ≤ B) (h2 : ∀ x ∈ m, x.length ≤ B) : ∀ x ∈ l ++ m, x.length ≤ B := fun x hx => by
  rcases List.mem_append.1 hx with h | h
  · exact h1 x h
  · exact h2 x h
theorem least_two (a b : List (List UInt8)) (ha : a.length ≤ 12) (hb : b.length ≤ 12) : (Tp.least (a ++ b)).length ≤ 400 := by
  have := Tp.least_len (a ++ b)
  rw [List.length_append] at this
  omega
theorem least_assoc (a b c : List (List UInt8)) : Tp.least (Tp.least (a ++ b) ++ c) = Tp.least (a ++ Tp.least (b ++ c)) := by
  rw [Tp.least_join, Tp.least_join2, List.append_assoc]

set_option maxHeartbeats 4000000 in
set_option maxRecDepth 100000 in
theorem oturns_walk (av : Option Addr) (len cap : Nat) (z : Nat → ByteArray) (av2 : Option Addr) (len2 cap2 : Nat) (z2 : Nat → ByteArray) (av3 : Option Addr) (len3 cap3 : Nat) (z3 : Nat → ByteArray) (w : World) (hl : StrArg w av len cap z) (hl2 : StrArg w av2 len2 cap2 z2) (hl3 : StrArg w av3 len3 cap3 z3) :
    Calls Try.prog 6 #[.slice av len cap, .slice av2 len2 cap2, .slice av3 len3 cap3] w fun e w' => e = .returned (.bool true) ∧ Kept w w' := by
  have A1 := Lib.hid hl
  have A2 := Lib.hid hl2
  have A3 := Lib.hid hl3
  clear hl hl2 hl3
  go_enter Try.func6, Try.ntmps6
  go_wp2_with fail
  refine (few_any _ _ _ z _ A1.out).mono ?_
  rintro e w1 ⟨a, xs, rfl, fa, k1⟩
  have FA0 := Lib.hid fa
  clear fa
  go_wp2_with fail
  refine (few_any _ _ _ z2 _ (A2.out.kept k1)).mono ?_
  rintro e w2 ⟨b, ys, rfl, fb, k2⟩
  have FB0 := Lib.hid fb
  clear fb
  go_wp2_with fail
  refine (few_any _ _ _ z3 _ (A3.out.kept (k1.trans k2))).mono ?_
  rintro e w3 ⟨c, zs, rfl, fc, k3⟩
  have FC := Lib.hid fc
  have FA := Lib.hid ((FA0.out.kept k2).kept k3)
  have FB := Lib.hid (FB0.out.kept k3)
  have K3 := (k1.trans k2).trans k3
  clear fc FA0 FB0 A1 A2 A3
  obtain ⟨aa, capa, rfl, hc1, hc2, hat⟩ := strs_get FA.out.strs
  have HA := Lib.hid hat
  have lx := FA.out.len
  unfold maxLen at hc2
  clear hat
  go_wp2
  go_loopw [7, 8] (fun t i wr => ∃ (m : Nat) (ts : List (List UInt8)), m ≤ xs.length ∧ i = .int .i64 ((m : Int) - 1) ∧ OwnN wr w3.heap.size t ts ∧ ts.length + 2 * m = 2 * xs.length ∧ (∀ x, x ∈ ts ↔ x ∈ xs.drop m) ∧ Kept w3 wr) (fun _ i _ => (intOf i + 1).toNat)
  case atStart => exact ⟨xs.length, [], Nat.le_refl _, rfl, OwnN.empty w3, by simp, fun x => by simp, Kept.alloc (Kept.refl _) _⟩
  case round =>
    obtain ⟨m, ts, hm, rfl, hown, htl, hmem, kr⟩ := hrel
    have HO := Lib.hid hown
    have HM := Lib.hid hmem
    clear hown hmem
    rcases m with _ | j
    · have e0 : (((0 : Nat) : Int) - 1) = -1 := by omega
      rw [e0]
      have Hle : Hid (Tp.least ts = Tp.least xs) := Tp.least_congr fun x => by rw [HM.out]; simp
      have hts : ts.length ≤ 1000 := by omega
      have Hs : Hid (∀ x ∈ ts, x.length ≤ 1000) := fun x hx => FA.out.s10 x (by have := (HM.out x).1 hx; simpa using this)
      go_wp2_with fail
      refine (Least_to _ ts _ wr HO.out.1.strs hts Hs.out Hle.out).mono ?_
      rintro e w4 ⟨u4, rfl, o4, k4⟩
      have k34 := kr.trans k4
      have O4 := Lib.hid o4
      clear o4
      go_wp2_with fail
      refine (Least_any _ xs w4 (FA.out.kept k34).strs FA.out.l10 FA.out.s10).mono ?_
      rintro e w5 ⟨u5, rfl, o5, k5⟩
      have k35 := k34.trans k5
      have O5 := Lib.hid o5
      clear o5
      go_wp2_with fail
      refine (same_true u4 u5 _ w5 (O4.out.kept k5).strs O5.out.strs).mono ?_
      rintro e w6 ⟨rfl, k6⟩
      have k36 := k35.trans k6
      clear O4 O5 Hle
      go_wp2_with fail
      refine (Join_any _ b xs ys _ _ w6 (FA.out.kept k36).own.1 (FB.out.kept k36).own.1 FA.out.l4 FB.out.l4 FA.out.s10 FB.out.s10).mono ?_
      rintro e w7 ⟨u7, rfl, o7, k7⟩
      have k37 := k36.trans k7
      have O7 := Lib.hid o7
      clear o7
      go_wp2_with fail
      refine (Join_to b _ ys xs _ _ _ w7 (FB.out.kept k37).own.1 (FA.out.kept k37).own.1 FB.out.l4 FA.out.l4 FB.out.s10 FA.out.s10 (Tp.least_congr (Tp.append_comm_mem ys xs))).mono ?_
      rintro e w8 ⟨u8, rfl, o8, k8⟩
      have k38 := k37.trans k8
      have O8 := Lib.hid o8
      clear o8
      go_wp2_with fail
      refine (same_true u7 u8 _ w8 (O7.out.kept k8).strs O8.out.strs).mono ?_
      rintro e w9 ⟨rfl, k9⟩
      have k39 := k38.trans k9
      clear O7 O8
      go_wp2_with fail
      refine (Join_any _ b xs ys _ _ w9 (FA.out.kept k39).own.1 (FB.out.kept k39).own.1 FA.out.l4 FB.out.l4 FA.out.s10 FB.out.s10).mono ?_
      rintro e w10 ⟨u10, rfl, o10, k10⟩
      have k310 := k39.trans k10
      have O10 := Lib.hid o10
      clear o10
      go_wp2_with fail
      refine (Join_any u10 c _ zs _ _ w10 O10.out (FC.out.kept k310).own.1 (least_two _ _ FA.out.len FB.out.len) FC.out.l4 (least_s 1000 (app_s 1000 FA.out.s10 FB.out.s10)) FC.out.s10).mono ?_
      rintro e w11 ⟨u11, rfl, o11, k11⟩
      have k311 := k310.trans k11
      have O11 := Lib.hid o11
      clear o11 O10
      go_wp2_with fail
      refine (Join_any b c ys zs _ _ w11 (FB.out.kept k311).own.1 (FC.out.kept k311).own.1 FB.out.l4 FC.out.l4 FB.out.s10 FC.out.s10).mono ?_
      rintro e w12 ⟨u12, rfl, o12, k12⟩
      have k312 := k311.trans k12
      have O12 := Lib.hid o12
      clear o12
      go_wp2_with fail
      refine (Join_to _ u12 xs _ _ _ _ w12 (FA.out.kept k312).own.1 O12.out FA.out.l4 (least_two _ _ FB.out.len FC.out.len) FA.out.s10 (least_s 1000 (app_s 1000 FB.out.s10 FC.out.s10)) (least_assoc xs ys zs).symm).mono ?_
      rintro e w13 ⟨u13, rfl, o13, k13⟩
      have k313 := k312.trans k13
      have O13 := Lib.hid o13
      clear o13 O12
      go_wp2_with fail
      refine (same_true u11 u13 _ w13 ((O11.out.kept k12).kept k13).strs O13.out.strs).mono ?_
      rintro e w14 ⟨rfl, k14⟩
      have k314 := k313.trans k14
      clear O11 O13
      go_wp2_with fail
      refine (Join_to _ _ xs xs (Tp.least xs) _ _ w14 (FA.out.kept k314).own.1 (FA.out.kept k314).own.1 FA.out.l4 FA.out.l4 FA.out.s10 FA.out.s10 (Tp.least_congr fun x => by simp)).mono ?_
      rintro e w15 ⟨u15, rfl, o15, k15⟩
      have k315 := k314.trans k15
      have O15 := Lib.hid o15
      clear o15
      go_wp2_with fail
      refine (Least_any _ xs w15 (FA.out.kept k315).strs FA.out.l10 FA.out.s10).mono ?_
      rintro e w16 ⟨u16, rfl, o16, k16⟩
      have k316 := k315.trans k16
      have O16 := Lib.hid o16
      clear o16
      go_wp2_with fail
      refine (same_true u15 u16 _ w16 (O15.out.kept k16).strs O16.out.strs).mono ?_
      rintro e w17 ⟨rfl, k17⟩
      go_wp2_with fail
      refine (fixed5_any w17).mono ?_
      rintro e w18 ⟨rfl, k18⟩
      go_wp2
      go_ret
      exact ⟨rfl, K3.trans ((k316.trans k17).trans k18)⟩
    · have e0 : (((j + 1 : Nat) : Int) - 1) = (j : Int) := by omega
      rw [e0]
      have hj : j < xs.length := by omega
      obtain ⟨b1, off, p, rfl, hb1, hc, lp⟩ := HA.out j hj
      have hck := (Below.cell kr (p := ⟨b1, off + j, none⟩) hb1).trans hc
      have Hdr : Hid (xs.drop j = p.data.toList :: xs.drop (j + 1)) := by show _ = _; rw [lp]; exact List.drop_eq_getElem_cons hj
      have Hmm : Hid (∀ x, x ∈ ts ++ [p.data.toList, p.data.toList] ↔ x ∈ xs.drop j) := fun x => by
        rw [Hdr.out, List.mem_append, HM.out x, List.mem_cons]
        simp only [List.mem_cons, List.not_mem_nil, or_false, or_self]
        exact or_comm
      have kd : Kept w3 wr.drew := kr.drew
      clear hc lp e0
      go_wp2
      go_region_law (refine step_twice (HO.out.kept (Kept.drew (Kept.refl wr))).1 ts.length rfl (by omega) kd.size p rfl (.tmp 23) (.tmp 32) rfl (by simp [Act.eval]) (by simp [Act.eval]) ?_; intro g' cap' w4 o4 b4)
      all_goals
        have O4 := Lib.hid o4
        have k4 : Kept w3 w4 := Below.trans kd b4
        clear o4
        go_wp2
        go_roundw
        case rel => exact ⟨j, _, by omega, by go_num, O4.out, by rw [List.length_append, List.length_cons, List.length_singleton]; omega, Hmm.out, k4⟩
        case measure => simp [intOf]
end Go.Proofs.Ytlpkeimcklhdbaa
