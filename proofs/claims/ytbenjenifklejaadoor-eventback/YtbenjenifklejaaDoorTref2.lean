/-
  The document's own names, topics and filters: the walks of rivuletref03.Name, Right, Filter.
-/
import Derived.Test.YtbenjenifklejaaDoorTref
namespace Go.Proofs.YtbenjenifklejaaDoor
open Go.ChangeShapes Go.WideShapes Go.ChangeAt Go.RowKit

theorem name_stop (s : ByteArray) (k : Nat) (h : k < s.size) (hn : Tp.nb s[k] = false) : Tp.name s.data.toList = false := by
  rw [Tp.name, all_nb_stop s k h hn]; simp
theorem name_end (s : ByteArray) (h : ∀ j (hj : j < s.size), Tp.nb s[j] = true) : Tp.name s.data.toList = (decide (1 ≤ s.size) && decide (s.size ≤ 16)) := by
  rw [Tp.name, all_nb_end s h, str_size]; simp

set_option maxHeartbeats 2000000 in
set_option maxRecDepth 100000 in
theorem rname_any (s : ByteArray) (w : World) (hs : s.size ≤ 1000000) :
    Calls Tryd.prog 53 #[.string s] w fun e w' => e = .returned (.bool (Tp.name s.data.toList)) ∧ w' = w := by
  go_enter Tryd.func53, Tryd.ntmps53
  go_wp2
  go_loop [3] (fun i => ∃ k : Nat, k ≤ s.size ∧ i = .int .i64 k ∧ ∀ j (hj : j < s.size), j < k → Tp.nb s[j] = true) (fun i => s.size - (intOf i).toNat)
  case atStart => exact ⟨0, Nat.zero_le _, rfl, fun j _ h => absurd h (Nat.not_lt_zero _)⟩
  case round =>
    obtain ⟨k, hk, rfl, hn⟩ := hrel
    have Hn := Lib.hid hn
    clear hn
    by_cases hlt : k < s.size
    · have hnr := Tp.nr_byte s[k]
      obtain ⟨c, hc⟩ : ∃ c : Int, (s[k].toNat : Int) = c := ⟨_, rfl⟩
      rw [hc] at hnr
      have Hnr := Lib.hid hnr
      have Hstop := Lib.hid (name_stop s k hlt)
      clear hnr
      have Hk : Hid (Tp.nr c = ((decide (97 ≤ c) && decide (c ≤ 122)) || (decide (48 ≤ c) && decide (c ≤ 57)) || (c == 45) || (c == 95))) := rfl
      by_cases h1 : 97 ≤ c <;> by_cases h2 : c ≤ 122 <;> by_cases h3 : 48 ≤ c <;> by_cases h4 : c ≤ 57 <;> by_cases h5 : (c == 45) = true <;> by_cases h6 : (c == 95) = true <;> first
        | (exfalso; simp at h5 h6; omega)
        | (have Hb : Hid (Tp.nb s[k] = true) := by
             show _ = _
             rw [← Hnr.out, Hk.out]
             simp [h1, h2, h3, h4, h5, h6]
           clear Hnr Hk Hstop
           go_wp2
           go_round
           case rel =>
             refine ⟨k + 1, hlt, by go_num, fun j hj hjk => ?_⟩
             by_cases e : j = k
             · subst e; exact Hb.out
             · exact Hn.out j hj (by omega)
           case measure => simp [intOf]; omega)
        | (have Hb : Hid (Tp.nb s[k] = false) := by
             show _ = _
             rw [← Hnr.out, Hk.out]
             simp [h1, h2, h3, h4, h5, h6]
           clear Hnr Hk
           go_wp2
           go_ret
           exact ⟨by rw [Hstop.out Hb.out]; rfl, rfl⟩)
    · have Ha := Lib.hid (name_end s fun j hj => Hn.out j hj (by omega))
      by_cases g1 : 1 ≤ s.size
      · by_cases g2 : s.size ≤ 16
        · go_wp2
          go_ret
          exact ⟨by rw [Ha.out]; simp [g1, g2]; omega, rfl⟩
        · go_wp2
          go_ret
          exact ⟨by rw [Ha.out]; simp [g2]; omega, rfl⟩
      · go_wp2
        go_ret
        exact ⟨by rw [Ha.out]; simp [g1], rfl⟩

/-- a text's levels in memory, opened -/
theorem lev_open {w : World} {base : Nat} {v : Value} {l : Tp.L} (h : OwnS w base v (Tp.lev l)) :
    ∃ g off cap, v = .slice (some ⟨g, off, none⟩) (Tp.lev l).length cap ∧ (Tp.lev l).length ≤ cap ∧ cap ≤ maxLen ∧ ∀ i (hi : i < (Tp.lev l).length), ∃ p : ByteArray, w.cell? ⟨g, off + i, none⟩ = some (.string p) ∧ p.data.toList = (Tp.lev l)[i] := by
  obtain ⟨a, cap, rfl, h1, h2, h3⟩ := h.strs
  rcases h3 with h3 | ⟨g, off, rfl, hg, hc⟩
  · exact absurd h3 (Tp.lev_ne l)
  · refine ⟨g, off, cap, rfl, h1, h2, fun i hi => ?_⟩
    obtain ⟨p, c1, c2⟩ := strs_at hc i hi
    exact ⟨p, c1, by rw [← toList_eq]; exact c2⟩
theorem right_at_stop {s : Tp.L} {k : Nat} (hk : k < (Tp.lev s).length) (h : Tp.name (Tp.lev s)[k] = false) : Tp.right s = false := by
  have : Tp.names (Tp.lev s) = false := by
    rw [Tp.names, List.all_eq_false]
    exact ⟨_, List.getElem_mem hk, by rw [h]; simp⟩
  rw [Tp.right, this]; simp
theorem right_at_end {s : Tp.L} (h : ∀ k (hk : k < (Tp.lev s).length), Tp.name (Tp.lev s)[k] = true) : Tp.right s = decide ((Tp.lev s).length ≤ 8) := by
  have : Tp.names (Tp.lev s) = true := by
    rw [Tp.names, List.all_eq_true]
    intro x hx
    obtain ⟨k, hk, rfl⟩ := List.getElem_of_mem hx
    exact h k hk
  rw [Tp.right, this]; simp

set_option maxHeartbeats 1000000 in
set_option maxRecDepth 100000 in
theorem rright_any (s : ByteArray) (w : World) (hs : s.size ≤ 1000000) :
    Calls Tryd.prog 34 #[.string s] w fun e w' => e = .returned (.bool (Tp.right s.data.toList)) ∧ Kept w w' := by
  go_enter Tryd.func34, Tryd.ntmps34
  go_wp2_with fail
  refine (rlevels_any s _ hs).mono ?_
  rintro e w1 ⟨v, rfl, hown, k1⟩
  obtain ⟨g, off, cap, rfl, hcap, hcm, hat⟩ := lev_open hown
  have hll := Tp.lev_length s.data.toList
  rw [str_size] at hll
  have hsz : ∀ i (hi : i < (Tp.lev s.data.toList).length), (Tp.lev s.data.toList)[i].length ≤ s.size := fun i hi => by have := Tp.lev_size _ _ (List.getElem_mem hi); rw [str_size] at this; exact this
  have Hstop : Hid (∀ k (hk : k < (Tp.lev s.data.toList).length), Tp.name (Tp.lev s.data.toList)[k] = false → Tp.right s.data.toList = false) := fun k hk h => right_at_stop hk h
  have Hend := Lib.hid (right_at_end (s := s.data.toList))
  have Hat := Lib.hid hat
  have Hsz := Lib.hid hsz
  clear hown hat hsz
  obtain ⟨xs, hxs⟩ : ∃ xs, Tp.lev s.data.toList = xs := ⟨_, rfl⟩
  rw [hxs] at Hat Hend Hstop Hsz hcap hll ⊢
  clear hxs
  unfold maxLen at hcm
  go_wp2
  go_loop [4] (fun i => ∃ k : Nat, k ≤ xs.length ∧ i = .int .i64 k ∧ ∀ j (hj : j < xs.length), j < k → Tp.name xs[j] = true) (fun i => xs.length - (intOf i).toNat)
  case atStart => exact ⟨0, Nat.zero_le _, rfl, fun j _ h => absurd h (Nat.not_lt_zero _)⟩
  case round =>
    obtain ⟨k, hk, rfl, hn⟩ := hrel
    have Hn := Lib.hid hn
    clear hn
    by_cases hlt : k < xs.length
    · obtain ⟨p, cp, lp⟩ := Hat.out k hlt
      have hps : p.size ≤ s.size := by have := Hsz.out k hlt; rw [← lp, str_size] at this; exact this
      have Lp := Lib.hid lp
      clear lp
      go_wp2_with fail
      refine (rname_any p _ (by omega)).mono ?_
      rintro e w2 ⟨rfl, rfl⟩
      rw [Lp.out]
      cases hb : Tp.name xs[k] with
      | false =>
        have Hb := Lib.hid hb
        clear hb
        go_wp2
        go_ret
        exact ⟨by rw [Hstop.out k hlt Hb.out]; rfl, k1⟩
      | true =>
        have Hb := Lib.hid hb
        clear hb
        go_wp2
        go_round
        case rel =>
          refine ⟨k + 1, hlt, by go_num, fun j hj hjk => ?_⟩
          by_cases e : j = k
          · subst e; exact Hb.out
          · exact Hn.out j hj (by omega)
        case measure => simp [intOf]; omega
    · have Ha := Lib.hid (Hend.out fun j hj => Hn.out j hj (by omega))
      go_wp2
      go_ret
      exact ⟨by rw [Ha.out]; simp; omega, k1⟩

namespace Tp
theorem filt_iff : ∀ xs : List L, filt xs = true ↔ ∀ i (h : i < xs.length), part xs[i] = true ∨ (xs[i] = hash ∧ i + 1 = xs.length)
  | [] => ⟨fun _ i h => absurd h (Nat.not_lt_zero _), fun _ => rfl⟩
  | [x] => by
    rw [filt, Bool.or_eq_true, beq_iff_eq]
    constructor
    · intro h i hi
      have : i = 0 := by simp at hi; exact hi
      subst this
      exact h.elim .inl fun h => .inr ⟨h, rfl⟩
    · intro h
      exact (h 0 (by simp)).elim .inl fun h => .inr h.1
  | x :: y :: ys => by
    rw [filt, Bool.and_eq_true, filt_iff (y :: ys)]
    constructor
    · rintro ⟨h1, h2⟩ i hi
      cases i with
      | zero => exact .inl h1
      | succ i =>
        have := h2 i (by simpa using hi)
        rw [List.getElem_cons_succ]
        exact this.elim .inl fun h => .inr ⟨h.1, by rw [List.length_cons, h.2]⟩
    · intro h
      refine ⟨?_, fun i hi => ?_⟩
      · rcases h 0 (by simp) with h | h
        · exact h
        · simp at h
      · have := h (i + 1) (by simpa using hi)
        rw [List.getElem_cons_succ] at this
        exact this.elim .inl fun h => .inr ⟨h.1, by have := h.2; rw [List.length_cons] at this; omega⟩
theorem filter_at_stop {s : L} {k : Nat} (hk : k < (lev s).length) (h1 : part (lev s)[k] = false) (h2 : ¬ ((lev s)[k] = hash ∧ k + 1 = (lev s).length)) : filter s = false := by
  have : filt (lev s) = false := by
    rw [← Bool.not_eq_true, filt_iff]
    intro h
    rcases h k hk with h | h
    · rw [h1] at h; cases h
    · exact h2 h
  rw [filter, this]; simp
theorem filter_at_end {s : L} (h : ∀ i (h : i < (lev s).length), part (lev s)[i] = true ∨ ((lev s)[i] = hash ∧ i + 1 = (lev s).length)) : filter s = decide ((lev s).length ≤ 8) := by
  rw [filter, (filt_iff _).2 h]; simp
end Tp

end Go.Proofs.YtbenjenifklejaaDoor
