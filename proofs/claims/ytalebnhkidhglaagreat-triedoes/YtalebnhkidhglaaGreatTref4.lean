/-
  The document's own rows: the walk of rivuletref03.Row.
-/
import Derived.Test.YtalebnhkidhglaaGreatTref3
namespace Go.Proofs.YtalebnhkidhglaaGreat
open Go.ChangeShapes Go.WideShapes Go.ChangeAt Go.RowKit

namespace Tp
/-- the levels of a filter's topics that have n, and whether there are such, as the document reckons them -/
def rowv (xs : List L) (n : Nat) : List L × Bool :=
  if xs.getLast? = some hash then (xs.dropLast ++ List.replicate (n - (xs.length - 1)) plus, decide (xs.length - 1 ≤ n)) else (xs, xs.length == n)
theorem rowv_plain {xs : List L} {n : Nat} (h : xs.getLast? ≠ some hash) : rowv xs n = (xs, xs.length == n) := if_neg h
theorem rowv_hash {xs : List L} {n : Nat} (h : xs.getLast? = some hash) : rowv xs n = (xs.dropLast ++ List.replicate (n - (xs.length - 1)) plus, decide (xs.length - 1 ≤ n)) := if_pos h
end Tp

/-- a text's levels in memory, opened: the cells themselves -/
theorem lev_cells {w : World} {base : Nat} {v : Value} {l : Tp.L} (h : OwnS w base v (Tp.lev l)) :
    ∃ g off cap, v = .slice (some ⟨g, off, none⟩) (Tp.lev l).length cap ∧ (Tp.lev l).length ≤ cap ∧ cap ≤ maxLen ∧ ∀ i x, (Tp.lev l)[i]? = some x → w.cell? ⟨g, off + i, none⟩ = some (str x) := by
  obtain ⟨a, cap, rfl, h1, h2, h3⟩ := h.strs
  rcases h3 with h3 | ⟨g, off, rfl, hg, hc⟩
  · exact absurd h3 (Tp.lev_ne l)
  · exact ⟨g, off, cap, rfl, h1, h2, hc⟩
theorem add_at (g off j : Nat) : (⟨g, off, none⟩ : Addr).add j = ⟨g, off + j, none⟩ := by unfold Addr.add; split <;> simp_all
theorem str_one (l : List (List UInt8)) : ∀ u ∈ l.map str, u.oneCell' = true := by
  intro u hu
  obtain ⟨x, _, rfl⟩ := List.mem_map.1 hu
  rfl
theorem own_len {w : World} {base : Nat} {v : Value} {xs : List (List UInt8)} (h : OwnS w base v xs) : ∃ a cap, v = .slice a xs.length cap := by
  obtain ⟨a, cap, rfl, _⟩ := h.strs
  exact ⟨a, cap, rfl⟩

def lenOf : Value → Nat
  | .slice _ n _ => n
  | _ => 0
set_option maxHeartbeats 2000000 in
set_option maxRecDepth 100000 in
theorem rrow_any (s : ByteArray) (n : Nat) (w : World) (hs : s.size ≤ 1000) (hn : n ≤ 1000) :
    Calls Tryz.prog 61 #[.string s, .int .i64 n] w fun e w' => ∃ v, e = .returned (.tuple #[v, .bool (Tp.rowv (Tp.lev s.data.toList) n).2]) ∧ OwnS w' w.heap.size v (Tp.rowv (Tp.lev s.data.toList) n).1 ∧ Kept w w' := by
  obtain ⟨i0, hi, hz0, hz1, hz2⟩ := info_parts infoStr
  have Hi := Lib.hid hi
  have Hz0 := Lib.hid hz0
  have Hz1 := Lib.hid hz1
  have Hz2 := Lib.hid hz2
  clear hi hz0 hz1 hz2
  go_enter Tryz.func61, Tryz.ntmps61
  go_wp2_with fail
  refine (rlevels_any s _ (by omega)).mono ?_
  rintro e w1 ⟨v, rfl, hown, k1⟩
  obtain ⟨g, off, cap, rfl, hcap, hcm, hat⟩ := lev_cells hown
  have hll := Tp.lev_length s.data.toList
  have hlp := Tp.lev_pos s.data.toList
  rw [str_size] at hll
  have Hat := Lib.hid hat
  have Hown := Lib.hid hown
  clear hat hown
  obtain ⟨xs, hxs⟩ : ∃ xs, Tp.lev s.data.toList = xs := ⟨_, rfl⟩
  rw [hxs] at Hat Hown hcap hll hlp ⊢
  have HX := Lib.hid hxs
  clear hxs
  unfold maxLen at hcm
  obtain ⟨last, hlast⟩ : ∃ last, xs[xs.length - 1]? = some last := ⟨_, List.getElem?_eq_getElem (by omega)⟩
  obtain ⟨p, hp, _, lp⟩ := name_list last
  have cl := Hat.out _ _ hlast
  rw [hp] at cl
  rw [← List.getLast?_eq_getElem?] at hlast
  have Hlast := Lib.hid hlast
  clear hlast hp
  have idx : (xs.length : Int) - 1 = ((xs.length - 1 : Nat) : Int) := by omega
  by_cases hx : last = [35]
  · have e1 : (p.toList == [35]) = true := by rw [toList_eq, lp, hx]; rfl
    have e2 : (p.toList != [35]) = false := by simp [bne, e1]
    have Hr := Lib.hid (Tp.rowv_hash (n := n) (Hlast.out.trans (by rw [hx])))
    have hdl : (xs.dropLast).length = xs.length - 1 := List.length_dropLast
    have Hnews : Hid (∀ j u, (xs.dropLast.map str)[j]? = some u → (w1.alloc (.cells #[] 9)).cell? ((⟨g, off, none⟩ : Addr).add j) = some u) := by
      intro j u hu
      rw [List.getElem?_map] at hu
      cases hj : xs.dropLast[j]? with
      | none => rw [hj] at hu; cases hu
      | some x =>
        rw [hj] at hu
        cases hu
        rw [add_at]
        have hj2 : xs[j]? = some x := by
          rw [List.getElem?_dropLast] at hj
          split at hj
          · exact hj
          · cases hj
        have hc := Hat.out j x hj2
        have k := Kept.alloc (Kept.refl w1) (.cells #[] 9)
        exact (Below.cell k (p := ⟨g, off + j, none⟩) (by
          rcases Nat.lt_or_ge g w1.heap.size with h | h
          · exact h
          · simp [World.cell?, Array.getElem?_eq_none h] at hc)).trans hc
    clear hx lp Hlast
    go_wp2_with (first
      | (at_builtin; refine wpList_append_own _ rfl _ _ 40 rfl w1.heap.size 9 i0 (.string ⟨#[]⟩) 1 16 Tryz.underlying40 Hi.out Hz0.out Hz1.out Hz2.out rfl (by decide) _ _ _ rfl (own_empty w1) ⟨g, off, none⟩ (xs.length - 1) _ (xs.dropLast.map str) rfl (by rw [List.length_map, hdl, Nat.mul_one]) Hnews.out (str_one _) (by unfold maxLen; simp only [List.length_nil]; omega) (by simp only [List.length_nil]; omega) (by simp) ?_))
    intro v' w3 hown3 hgrow _
    have hown4 : OwnS w3 w1.heap.size v' xs.dropLast := by
      unfold OwnS
      rw [hdl, List.map_dropLast]
      exact hown3
    have kr3 : Kept w1 w3 := kept_grown (Kept.alloc (Kept.refl w1) _) hgrow (fun k hk => by simp [Value.ownBlock] at hk; omega)
    clear hown3 hgrow Hnews
    go_wp2
    go_loopw [8] (fun v wr => ∃ j : Nat, (j = 0 ∨ xs.length - 1 + j ≤ n) ∧ OwnS wr w1.heap.size v (xs.dropLast ++ List.replicate j Tp.plus) ∧ Kept w1 wr) (fun v _ => n - lenOf v)
    case atStart => exact ⟨0, .inl rfl, by rw [List.replicate_zero, List.append_nil]; exact hown4, kr3⟩
    case round =>
      obtain ⟨j, hj, hown, kr⟩ := hrel
      have hlj : (xs.dropLast ++ List.replicate j Tp.plus).length = xs.length - 1 + j := by rw [List.length_append, hdl, List.length_replicate]
      have hsn : (xs.dropLast ++ List.replicate j Tp.plus) ++ [Tp.plus] = xs.dropLast ++ List.replicate (j + 1) Tp.plus := by rw [List.append_assoc, ← List.replicate_succ']
      have hfin : ¬ (xs.length - 1 + j < n) → xs.dropLast ++ List.replicate j Tp.plus = xs.dropLast ++ List.replicate (n - (xs.length - 1)) Tp.plus := by
        intro h
        have : j = n - (xs.length - 1) := by omega
        rw [this]
      obtain ⟨ys, hys⟩ : ∃ ys, xs.dropLast ++ List.replicate j Tp.plus = ys := ⟨_, rfl⟩
      rw [hys] at hlj hsn hfin hown
      have Hsn := Lib.hid hsn
      have Hfin := Lib.hid hfin
      have hy1 : ys.length ≤ 2002 := by omega
      have Hlj := Lib.hid hlj
      clear hys hsn hfin hlj
      obtain ⟨a, cp, rfl⟩ := own_len hown
      by_cases hlt : ys.length < n
      · go_wp2_with (first
          | (at_builtin; refine wpList_append_own _ rfl _ _ 40 rfl w1.heap.size 9 i0 (.string ⟨#[]⟩) 1 16 Tryz.underlying40 Hi.out Hz0.out Hz1.out Hz2.out rfl (by decide) _ _ _ rfl (World.ownsRow.alloc hown _) ⟨wr.heap.size, 0, none⟩ 1 1 [.string ⟨#[43]⟩] rfl rfl (one_cell _ _) (one_one _) (by unfold maxLen; omega) (by omega) (by have := kr.size; simp; omega) ?_))
        intro v2 w4 hown5 hgrow _
        have kr4 : Kept w1 w4 := kept_grown (kr.alloc _) hgrow (fun k hk => (World.ownsRow.lt hown k hk).1)
        have hown6 := own_snoc (x := Tp.plus) rfl hown5
        rw [Hsn.out] at hown6
        clear hown5 hgrow hown
        go_wp2
        go_roundw
        case rel => exact ⟨j + 1, .inr (by have := Hlj.out; omega), hown6, kr4⟩
        case measure =>
          obtain ⟨a2, cp2, rfl⟩ := own_len hown6
          have := Hlj.out
          rw [← Hsn.out]
          simp [lenOf]; omega
      · have Hr2 : Hid (Tp.rowv xs n = (ys, ((ys.length : Int) == (n : Int)))) := by
          show _ = _
          rw [Hr.out, ← Hfin.out (by have := Hlj.out; omega)]
          congr 1
          rw [Bool.eq_iff_iff, decide_eq_true_eq, beq_iff_eq]
          have := Hlj.out
          omega
        go_wp2
        go_ret2
        rw [HX.out, Hr2.out]
        exact ⟨_, rfl, hown.mono k1.size, k1.trans kr⟩
  · have e1 : (p.toList == [35]) = false := by rw [toList_eq, lp]; exact beq_eq_false_iff_ne.2 hx
    have e2 : (p.toList != [35]) = true := by simp [bne, e1]
    have Hr := Lib.hid (Tp.rowv_plain (n := n) (show xs.getLast? ≠ some Tp.hash by rw [Hlast.out]; intro h; exact hx (Option.some.inj h)))
    clear hx lp Hlast
    go_wp2
    go_ret2
    rw [HX.out, Hr.out]
    have hnn : ((xs.length : Int) == (n : Int)) = (xs.length == n) := by rw [Bool.eq_iff_iff, beq_iff_eq, beq_iff_eq]; omega
    exact ⟨_, by rw [← hnn]; rfl, Hown.out, k1⟩
end Go.Proofs.YtalebnhkidhglaaGreat
