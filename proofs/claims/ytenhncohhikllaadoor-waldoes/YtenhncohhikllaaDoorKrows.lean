/-
  Rows of texts in memory; the walks of All and of the document's Same.
-/
import Derived.Test.YtenhncohhikllaaDoorKseal
import Derived.OwnWalk
import Derived.Deep.AppendLies
import Derived.Deep.Onto
import Derived.Laws.OwnMore
namespace Go.Proofs.YtenhncohhikllaaDoor
open Go.ChangeShapes Go.WideShapes Go.ChangeAt Go.RowKit

theorem own_kept {w w' : World} {base : Nat} {e : TypeId} {size : Nat} {v : Value} {n : Nat} {xs : List Value} (h : w.ownsRow base e size v n xs) (k : Kept w w') : w'.ownsRow base e size v n xs := by
  refine ⟨h.1, ?_⟩
  rcases h.2 with hn | ⟨g, cap, cur, hv, hb, hg, rest⟩
  · exact .inl hn
  · refine .inr ⟨g, cap, cur, hv, hb, (Below.block k g ?_).trans hg, rest⟩
    rcases Nat.lt_or_ge g w.heap.size with hlt | hge
    · exact hlt
    · rw [Array.getElem?_eq_none hge] at hg; cases hg
theorem kept_grown {a w w' : World} {row : Option Nat} (h : Kept a w) (hg : w.grownBy w' row) (hr : ∀ k, row = some k → a.heap.size ≤ k) : Kept a w' := Below.grown h hg h.size hr

theorem infoStr : (Tryd.prog.info? 9).map (fun i => (i.zero, i.size, i.bytes)) = some (some (.string ⟨#[]⟩), 1, 16) := by kernel_rfl

/-- a row of texts of the call's own -/
def OwnS (w : World) (base : Nat) (v : Value) (xs : List (List UInt8)) : Prop := w.ownsRow base 9 1 v xs.length (xs.map str)
theorem OwnS.kept {w w' : World} {base : Nat} {v : Value} {xs : List (List UInt8)} (h : OwnS w base v xs) (k : Kept w w') : OwnS w' base v xs := own_kept h k
theorem OwnS.mono {w : World} {base base' : Nat} {v : Value} {xs : List (List UInt8)} (h : OwnS w base v xs) (k : base' ≤ base) : OwnS w base' v xs := World.ownsRow.mono h k
theorem OwnS.nil (w : World) (base : Nat) : OwnS w base (.slice none 0 0) [] := World.ownsRow_nil _ _ _ _

/-- texts that a slice holds -/
def Strs (w : World) (v : Value) (xs : List (List UInt8)) : Prop :=
  ∃ a cap, v = .slice a xs.length cap ∧ xs.length ≤ cap ∧ cap ≤ maxLen ∧ (xs = [] ∨ ∃ g off, a = some ⟨g, off, none⟩ ∧ g < w.heap.size ∧ ∀ i x, xs[i]? = some x → w.cell? ⟨g, off + i, none⟩ = some (str x))
theorem Strs.kept {w w' : World} {v : Value} {xs : List (List UInt8)} (h : Strs w v xs) (k : Kept w w') : Strs w' v xs := by
  obtain ⟨a, cap, rfl, h1, h2, h3⟩ := h
  refine ⟨a, cap, rfl, h1, h2, ?_⟩
  rcases h3 with h3 | ⟨g, off, rfl, hg, hc⟩
  · exact .inl h3
  · exact .inr ⟨g, off, rfl, Nat.lt_of_lt_of_le hg k.size, fun i x hx => (Below.cell k (p := ⟨g, off + i, none⟩) hg).trans (hc i x hx)⟩
theorem OwnS.strs {w : World} {base : Nat} {v : Value} {xs : List (List UInt8)} (h : OwnS w base v xs) : Strs w v xs := by
  rcases h.2 with ⟨rfl, hn⟩ | ⟨g, cap, cur, rfl, hb, hg, h1, h2, h3, h4⟩
  · have : xs = [] := List.eq_nil_of_length_eq_zero hn
    subst this
    exact ⟨none, 0, rfl, Nat.le_refl _, Nat.zero_le _, .inl rfl⟩
  · refine ⟨_, cap, rfl, h1, h2, .inr ⟨g, 0, rfl, ?_, fun i x hx => ?_⟩⟩
    · rcases Nat.lt_or_ge g w.heap.size with hlt | hge
      · exact hlt
      · rw [Array.getElem?_eq_none hge] at hg; cases hg
    · have hi : i < xs.length := by
        rcases Nat.lt_or_ge i xs.length with hlt | hge
        · exact hlt
        · rw [List.getElem?_eq_none hge] at hx; cases hx
      have := World.ownsRow.cellAt (w := w) (base := base) (e := 9) (size := 1) (g := g) (cap := cap) (n := xs.length) (xs := xs.map str) h i (by omega)
      rw [Nat.zero_add, this, List.getElem?_map, hx]
      rfl

theorem strs_at {w : World} {g off : Nat} {xs : List (List UInt8)} (hc : ∀ i x, xs[i]? = some x → w.cell? ⟨g, off + i, none⟩ = some (str x)) (i : Nat) (h : i < xs.length) :
    ∃ p : ByteArray, w.cell? ⟨g, off + i, none⟩ = some (.string p) ∧ p.toList = xs[i] := by
  obtain ⟨p, hp, _, lp⟩ := name_str xs[i]
  exact ⟨p, by rw [← hp]; exact hc i _ (List.getElem?_eq_getElem h), by rw [toList_eq, lp]⟩

/-- the same up to k -/
theorem same_end (xs ys : List (List UInt8)) (hl : xs.length = ys.length) (h : ∀ i (h1 : i < xs.length) (h2 : i < ys.length), xs[i] = ys[i]) : (xs == ys) = true := by
  rw [beq_iff_eq]
  exact List.ext_getElem hl h

set_option maxHeartbeats 400000 in
set_option maxRecDepth 100000 in
theorem same_some (g1 o1 c1 g2 o2 c2 : Nat) (xs ys : List (List UInt8)) (w : World) (_l1 : xs.length ≤ c1) (m1 : c1 ≤ maxLen) (hl : xs.length = ys.length)
    (hc1 : ∀ i x, xs[i]? = some x → w.cell? ⟨g1, o1 + i, none⟩ = some (str x)) (hc2 : ∀ i x, ys[i]? = some x → w.cell? ⟨g2, o2 + i, none⟩ = some (str x)) :
    Calls Tryd.prog 33 #[.slice (some ⟨g1, o1, none⟩) xs.length c1, .slice (some ⟨g2, o2, none⟩) xs.length c2] w fun e w' => e = .returned (.bool (xs == ys)) ∧ Kept w w' := by
  unfold maxLen at m1
  have HC1 := Lib.hid hc1
  have HC2 := Lib.hid hc2
  have HL := Lib.hid hl
  clear hc1 hc2 hl
  go_enter Tryd.func33, Tryd.ntmps33
  go_wp2
  go_loopw [5] (fun i wr => ∃ k : Nat, k ≤ xs.length ∧ i = .int .i64 k ∧ (∀ j (a : j < xs.length) (b : j < ys.length), j < k → xs[j] = ys[j]) ∧ ∃ m, wr = w.drewN m) (fun i _ => xs.length - (intOf i).toNat)
  case atStart => exact ⟨0, Nat.zero_le _, rfl, by omega, 0, rfl⟩
  case round =>
    obtain ⟨k, hk, rfl, hsm, m, rfl⟩ := hrel
    have Hsm := Lib.hid hsm
    clear hsm
    by_cases hlt : k < xs.length
    · obtain ⟨p, cp, lp⟩ := strs_at HC1.out k hlt
      obtain ⟨q, cq, lq⟩ := strs_at HC2.out k (by rw [← HL.out]; exact hlt)
      have Lp := Lib.hid lp
      have Lq := Lib.hid lq
      clear lp lq
      by_cases he : p.toList = q.toList
      · have e1 : (p.toList == q.toList) = true := by rw [beq_iff_eq]; exact he
        have e2 : (p.toList != q.toList) = false := by simp [bne, e1]
        have He := Lib.hid he
        clear he
        go_wp2
        go_quiet (fail)
        go_wp2
        go_roundw
        case rel => exact ⟨k + 1, by omega, by go_num, fun j a b hj => by
                      by_cases e : j = k
                      · subst e; rw [← Lp.out, ← Lq.out, He.out]
                      · exact Hsm.out j a b (by omega), _, rfl⟩
        case measure => simp [intOf]; omega
      · have e1 : (p.toList == q.toList) = false := by rw [beq_eq_false_iff_ne]; exact he
        have e2 : (p.toList != q.toList) = true := by simp [bne, e1]
        have Hf : Hid ((xs == ys) = false) := by
          show _ = _
          rw [beq_eq_false_iff_ne]
          rintro rfl
          exact he (by rw [Lp.out, Lq.out])
        clear he
        go_wp2
        go_quiet (fail)
        go_wp2
        go_ret
        exact ⟨by rw [Hf.out]; rfl, below_drewN (below_drewN (Kept.refl w) _) _⟩
    · go_wp2
      go_ret
      refine ⟨?_, below_drewN (Kept.refl w) _⟩
      rw [same_end xs ys HL.out fun i a b => Hsm.out i a b (by omega)]
      rfl

set_option maxHeartbeats 400000 in
theorem same_any (v1 v2 : Value) (xs ys : List (List UInt8)) (w : World) (h1 : Strs w v1 xs) (h2 : Strs w v2 ys) :
    Calls Tryd.prog 33 #[v1, v2] w fun e w' => e = .returned (.bool (xs == ys)) ∧ Kept w w' := by
  obtain ⟨a1, c1, rfl, l1, m1, k1⟩ := h1
  obtain ⟨a2, c2, rfl, _, _, k2⟩ := h2
  by_cases hl : xs.length = ys.length
  · rcases k1 with rfl | ⟨g1, o1, rfl, _, q1⟩
    · have hy : ys = [] := List.eq_nil_of_length_eq_zero hl.symm
      subst hy
      clear hl k2
      go_enter Tryd.func33, Tryd.ntmps33
      go_wp2
      go_loop [5] (fun i => i = .int .i64 0) (fun _ => 0)
      case atStart => rfl
      case round =>
        obtain rfl := hrel
        go_wp2
        go_ret
        exact ⟨rfl, Kept.refl _⟩
    · rcases k2 with rfl | ⟨g2, o2, rfl, _, q2⟩
      · have hx : xs = [] := List.eq_nil_of_length_eq_zero hl
        subst hx
        clear hl q1
        go_enter Tryd.func33, Tryd.ntmps33
        go_wp2
        go_loop [5] (fun i => i = .int .i64 0) (fun _ => 0)
        case atStart => rfl
        case round =>
          obtain rfl := hrel
          go_wp2
          go_ret
          exact ⟨rfl, Kept.refl _⟩
      · rw [← hl]
        exact same_some g1 o1 c1 g2 o2 c2 xs ys w l1 m1 hl q1 q2
  · have e1 : ((xs.length : Int) == (ys.length : Int)) = false := by rw [beq_eq_false_iff_ne]; omega
    have e2 : ((xs.length : Int) != (ys.length : Int)) = true := by simp [bne, e1]
    have Hf : Hid ((xs == ys) = false) := by
      show _ = _
      rw [beq_eq_false_iff_ne]
      rintro rfl
      exact hl rfl
    clear k1 k2
    go_enter Tryd.func33, Tryd.ntmps33
    go_wp2
    go_ret
    exact ⟨by rw [Hf.out]; rfl, Kept.refl _⟩

/-- how far All has come -/
def AllTo (l : List UInt8) (xs : List (List UInt8)) (p : Nat) : Prop :=
  p ≤ l.length ∧ xs.length ≤ p ∧ ∃ f, l.length + 1 ≤ p + f ∧ Ck.all_ l = (xs ++ (Ck.allF f l p).1, (Ck.allF f l p).2)
theorem allTo_start (l : List UInt8) : AllTo l [] 0 := ⟨Nat.zero_le _, Nat.le_refl _, l.length + 1, by omega, rfl⟩
theorem allTo_stop {l : List UInt8} {xs : List (List UInt8)} {p : Nat} (h : AllTo l xs p) (he : (Ck.open_ l p).2.2 ≠ 0) : Ck.all_ l = (xs, p) := by
  obtain ⟨_, _, f, _, h4⟩ := h
  rw [h4, Ck.allF_stop f l p he]
  simp
theorem allTo_next {l : List UInt8} {xs : List (List UInt8)} {p : Nat} (h : AllTo l xs p) (he : (Ck.open_ l p).2.2 = 0) : AllTo l (xs ++ [(Ck.open_ l p).1]) (Ck.open_ l p).2.1 ∧ p < (Ck.open_ l p).2.1 := by
  obtain ⟨h1, h2, f, h3, h4⟩ := h
  obtain ⟨g1, g2, g3, g4⟩ := Ck.open_at_got l p h1 he
  obtain ⟨f', rfl⟩ : ∃ f', f = f' + 1 := ⟨f - 1, by omega⟩
  refine ⟨⟨g2, by rw [List.length_append, List.length_singleton]; omega, f', by omega, ?_⟩, g1⟩
  rw [h4, Ck.allF_step f' l p he]
  simp

theorem own_snoc {w1 : World} {base : Nat} {v' : Value} {xs : List (List UInt8)} {x : List UInt8} {p : ByteArray} (hp : str x = .string p) (h : w1.ownsRow base 9 1 v' (xs.length + 1) (xs.map str ++ [.string p])) : OwnS w1 base v' (xs ++ [x]) := by
  unfold OwnS
  rw [List.length_append, List.length_singleton, List.map_append, List.map_singleton, hp]
  exact h

theorem one_cell (w : World) (p : ByteArray) : ∀ (j : Nat) (u : Value), [Value.string p][j]? = some u → (w.alloc (.cells #[.string p] 9)).cell? ((⟨w.heap.size, 0, none⟩ : Addr).add j) = some u := by
  intro j u hj
  match j, hj with
  | 0, hj => simp at hj; subst hj; simp [Addr.add]
theorem one_one (p : ByteArray) : ∀ u ∈ [Value.string p], u.oneCell' = true := by
  intro u hu; simp at hu; subst hu; rfl
set_option maxHeartbeats 1000000 in
set_option maxRecDepth 100000 in
theorem all_any (s : ByteArray) (w : World) (hs : s.size ≤ 1000000) (hT : Tab w) :
    Calls Tryd.prog 73 #[.string s] w fun e w' => ∃ v, e = .returned (.tuple #[v, .int .i64 (Ck.all_ s.data.toList).2]) ∧ OwnS w' w.heap.size v (Ck.all_ s.data.toList).1 ∧ Kept w w' := by
  obtain ⟨i0, hi, hz0, hz1, hz2⟩ := info_parts infoStr
  have Hi := Lib.hid hi
  have Hz0 := Lib.hid hz0
  have Hz1 := Lib.hid hz1
  have Hz2 := Lib.hid hz2
  clear hi hz0 hz1 hz2
  have Hl := Lib.hid (size_len s)
  go_enter Tryd.func73, Tryd.ntmps73
  go_wp2_with fail
  refine (makeSteps_any _).mono ?_
  rintro e w1 ⟨rfl, k1, s1⟩
  have t1 := hT.kept k1
  go_wp2
  go_loopw [5, 6] (fun v a wr => ∃ (xs : List (List UInt8)) (p : Nat), a = .int .i64 p ∧ OwnS wr w1.heap.size v xs ∧ Kept w1 wr ∧ AllTo s.data.toList xs p) (fun _ a _ => s.size - (intOf a).toNat)
  case atStart => exact ⟨[], 0, rfl, OwnS.nil _ _, Kept.refl _, allTo_start _⟩
  case round =>
    obtain ⟨xs, p, rfl, hown, kr, hto⟩ := hrel
    have hp := hto.1
    have hx := hto.2.1
    rw [Hl.out] at hp
    go_wp2_with fail
    refine (openby_any _ s p _ (by omega) (by omega) (by omega) (t1.kept kr) (s1.kept kr)).mono ?_
    rintro e w2 ⟨rfl, k2⟩
    have hown2 := hown.kept k2
    have kr2 := kr.trans k2
    obtain ⟨⟨x, t, e0⟩, hg⟩ : ∃ x, x = Ck.open_ s.data.toList p := ⟨_, rfl⟩
    rw [← hg]
    have hst := allTo_stop hto
    have hnx := allTo_next hto
    rw [← hg] at hst hnx
    simp only at hst hnx
    have Hst := Lib.hid hst
    have Hnx := Lib.hid hnx
    obtain ⟨q, hq, sq, lq⟩ := name_str x
    have Hq := Lib.hid hq
    clear hg hst hnx hto hown hq sq lq
    unfold tups
    simp only
    rw [Hq.out]
    by_cases b1 : e0 = 0
    · subst b1
      obtain ⟨hto2, hpt⟩ := Hnx.out rfl
      have ht := hto2.1
      rw [Hl.out] at ht
      go_wp2_with (first
        | (at_builtin; refine wpList_append_own _ rfl _ _ 49 rfl w1.heap.size 9 i0 (.string ⟨#[]⟩) 1 16 Tryd.underlying49 Hi.out Hz0.out Hz1.out Hz2.out rfl (by decide) _ _ _ rfl (World.ownsRow.alloc hown2 _) ⟨w2.heap.size, 0, none⟩ 1 1 [.string q] rfl rfl (one_cell _ _) (one_one _) (by unfold maxLen; omega) (by omega) (by have := kr2.size; simp; omega) ?_))
      intro v' w3 hown3 hgrow _
      have kr3 : Kept w1 w3 := kept_grown (kr2.alloc _) hgrow (fun k hk => (World.ownsRow.lt hown2 k hk).1)
      have hown4 := own_snoc Hq.out hown3
      clear hown3 hgrow hown2
      go_wp2
      go_roundw
      case rel => exact ⟨xs ++ [x], t, rfl, hown4, kr3, hto2⟩
      case measure => simp [intOf]; omega
    · have hb : ((e0 : Int) == 0) = false := by rw [beq_eq_false_iff_ne]; omega
      have hb2 : ((e0 : Int) != 0) = true := by simp [bne, hb]
      go_wp2
      go_ret2
      refine ⟨u5, ?_, ?_, k1.trans kr2⟩
      · rw [Hst.out b1]; rfl
      · rw [Hst.out b1]; exact hown2.mono k1.size
end Go.Proofs.YtenhncohhikllaaDoor
