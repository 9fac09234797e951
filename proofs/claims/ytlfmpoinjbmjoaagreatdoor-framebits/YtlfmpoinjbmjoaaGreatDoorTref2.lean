/-
  The document's own names, topics and filters: the walks of rivuletref03.Name, Right, Filter.
-/
import Derived.Test.YtlfmpoinjbmjoaaGreatDoorTlevels
import Derived.Test.YtlfmpoinjbmjoaaGreatDoorTmath2
import Derived.Deep.DeepCutAuto
namespace Go.Proofs.YtlfmpoinjbmjoaaGreatDoor
open Go.ChangeShapes Go.WideShapes Go.ChangeAt Go.RowKit

theorem own_empty (w : World) : OwnS (w.alloc (.cells #[] 9)) w.heap.size (.slice (some ⟨w.heap.size, 0, none⟩) 0 0) [] :=
  ⟨rfl, .inr ⟨w.heap.size, 0, #[], rfl, Nat.le_refl _, heap_alloc_new w _, Nat.le_refl _, Nat.zero_le _, rfl, rfl⟩⟩

/-- how far the document's levels have come -/
structure LTo (l : Tp.L) (xs : List Tp.L) (f k : Nat) : Prop where
  fk : f ≤ k
  kl : k ≤ l.length
  cnt : xs.length ≤ f
  no : ∀ c ∈ (l.drop f).take (k - f), c ≠ 47
  eq : Tp.lev l = xs ++ Tp.lev (l.drop f)
theorem LTo.start (l : Tp.L) : LTo l [] 0 0 := ⟨Nat.le_refl _, Nat.zero_le _, Nat.le_refl _, fun c hc => by simp at hc, rfl⟩
theorem LTo.more {l : Tp.L} {xs : List Tp.L} {f k : Nat} (h : LTo l xs f k) (c : UInt8) (hc : l[k]? = some c) (hn : c ≠ 47) : LTo l xs f (k + 1) := by
  have hk : k < l.length := by
    rcases Nat.lt_or_ge k l.length with h | h
    · exact h
    · rw [List.getElem?_eq_none h] at hc; cases hc
  have fk := h.fk
  refine ⟨by omega, hk, h.cnt, fun d hd => ?_, h.eq⟩
  rw [show k + 1 - f = k - f + 1 by omega, List.take_add_one] at hd
  rcases List.mem_append.1 hd with hd | hd
  · exact h.no d hd
  · rw [List.getElem?_drop, show f + (k - f) = k by omega, hc] at hd
    simp at hd
    subst hd; exact hn
theorem LTo.cut {l : Tp.L} {xs : List Tp.L} {f k : Nat} (h : LTo l xs f k) (hc : l[k]? = some 47) : LTo l (xs ++ [(l.drop f).take (k - f)]) (k + 1) (k + 1) := by
  have hk : k < l.length := by
    rcases Nat.lt_or_ge k l.length with h | h
    · exact h
    · rw [List.getElem?_eq_none h] at hc; cases hc
  have fk := h.fk
  refine ⟨Nat.le_refl _, hk, by rw [List.length_append, List.length_singleton]; have := h.cnt; omega, fun c hc => by simp at hc, ?_⟩
  have e : l.drop f = (l.drop f).take (k - f) ++ 47 :: l.drop (k + 1) := by
    have e1 : (l.drop f).drop (k - f) = 47 :: l.drop (k + 1) := by
      rw [List.drop_drop, show f + (k - f) = k by omega, List.drop_eq_getElem_cons hk]
      rw [List.getElem?_eq_getElem hk] at hc
      rw [Option.some.inj hc]
    rw [← e1, List.take_append_drop]
  rw [h.eq, List.append_assoc, List.singleton_append]
  congr 1
  conv => lhs; rw [e]
  exact Tp.lev_cut _ _ h.no
theorem LTo.done_ {l : Tp.L} {xs : List Tp.L} {f : Nat} (h : LTo l xs f l.length) : Tp.lev l = xs ++ [l.drop f] := by
  rw [h.eq, Tp.lev_one]
  intro c hc
  refine h.no c ?_
  rw [List.take_of_length_le (by rw [List.length_drop]; exact Nat.le_refl _)]
  exact hc

set_option maxHeartbeats 1000000 in
set_option maxRecDepth 100000 in
theorem rlevels_any (s : ByteArray) (w : World) (hs : s.size ≤ 1000000) :
    Calls Tryz.prog 51 #[.string s] w fun e w' => ∃ v, e = .returned v ∧ OwnS w' w.heap.size v (Tp.lev s.data.toList) ∧ Kept w w' := by
  obtain ⟨i0, hi, hz0, hz1, hz2⟩ := info_parts infoStr
  have Hi := Lib.hid hi
  have Hz0 := Lib.hid hz0
  have Hz1 := Lib.hid hz1
  have Hz2 := Lib.hid hz2
  clear hi hz0 hz1 hz2
  have Hl := Lib.hid (str_size s)
  go_enter Tryz.func51, Tryz.ntmps51
  go_wp2
  go_loopw [3, 4, 5] (fun v f i wr => ∃ (xs : List (List UInt8)) (F k : Nat), f = .int .i64 F ∧ i = .int .i64 k ∧ OwnS wr w.heap.size v xs ∧ Kept w wr ∧ LTo s.data.toList xs F k) (fun _ _ i _ => s.size - (intOf i).toNat)
  case atStart => exact ⟨[], 0, 0, rfl, rfl, own_empty w, Kept.alloc (Kept.refl w) _, LTo.start _⟩
  case round =>
    obtain ⟨xs, F, k, rfl, rfl, hown, kr, hto⟩ := hrel
    have hfk := hto.fk
    have hkl := hto.kl
    have hxs := hto.cnt
    rw [Hl.out] at hkl
    have HT := Lib.hid hto
    clear hto
    by_cases hk : k < s.size
    · have hbt := byte_at s k hk
      by_cases hb : s[k] = 47
      · have e1 : ((s[k].toNat : Int) == 47) = true := by rw [hb]; rfl
        have HT2 := Lib.hid (HT.out.cut (by rw [hbt, hb]))
        have Hx : Hid ((s.extract F k).data.toList = (s.data.toList.drop F).take (k - F)) := extract_list s F k
        clear hbt hb
        obtain ⟨p, hp⟩ : ∃ p, s.extract F k = p := ⟨_, rfl⟩
        rw [hp] at Hx
        go_wp2_with (first
          | (at_builtin; refine wpList_append_own _ rfl _ _ 59 rfl w.heap.size 9 i0 (.string ⟨#[]⟩) 1 16 Tryz.underlying59 Hi.out Hz0.out Hz1.out Hz2.out rfl (by decide) _ _ _ rfl (World.ownsRow.alloc hown _) ⟨wr.heap.size, 0, none⟩ 1 1 [.string p] rfl rfl (one_cell _ _) (one_one _) (by unfold maxLen; omega) (by omega) (by have := kr.size; simp; omega) ?_))
        intro v' w3 hown3 hgrow _
        have kr3 : Kept w w3 := kept_grown (kr.alloc _) hgrow (fun k hk => (World.ownsRow.lt hown k hk).1)
        have hown4 := own_snoc (x := (s.data.toList.drop F).take (k - F)) (by rw [← Hx.out]; rfl) hown3
        clear hown3 hgrow hown
        go_wp2
        go_roundw
        case rel => exact ⟨_, k + 1, k + 1, by go_num, by go_num, hown4, kr3, HT2.out⟩
        case measure => simp [intOf]; omega
      · have e1 : ((s[k].toNat : Int) == 47) = false := by
          rw [beq_eq_false_iff_ne]
          intro e
          exact hb (UInt8.toNat_inj.1 (by show _ = 47; omega))
        have HT2 := Lib.hid (HT.out.more _ hbt hb)
        clear hbt hb
        go_wp2
        go_roundw
        case rel => exact ⟨xs, F, k + 1, rfl, by go_num, hown, kr, HT2.out⟩
        case measure => simp [intOf]; omega
    · have hke : k = s.size := by omega
      subst hke
      have HT2 : Hid (Tp.lev s.data.toList = xs ++ [(s.extract F s.size).data.toList]) := by
        show _ = _
        have := HT.out
        rw [← Hl.out] at this
        rw [this.done_, extract_list, List.take_of_length_le (by rw [List.length_drop, Hl.out]; exact Nat.le_refl _)]
      obtain ⟨p, hp⟩ : ∃ p, s.extract F s.size = p := ⟨_, rfl⟩
      rw [hp] at HT2
      go_wp2_with (first
        | (at_builtin; refine wpList_append_own _ rfl _ _ 59 rfl w.heap.size 9 i0 (.string ⟨#[]⟩) 1 16 Tryz.underlying59 Hi.out Hz0.out Hz1.out Hz2.out rfl (by decide) _ _ _ rfl (World.ownsRow.alloc hown _) ⟨wr.heap.size, 0, none⟩ 1 1 [.string p] rfl rfl (one_cell _ _) (one_one _) (by unfold maxLen; omega) (by omega) (by have := kr.size; simp; omega) ?_))
      intro v' w3 hown3 hgrow _
      have kr3 : Kept w w3 := kept_grown (kr.alloc _) hgrow (fun k hk => (World.ownsRow.lt hown k hk).1)
      have hown4 := own_snoc (x := p.data.toList) rfl hown3
      clear hown3 hgrow hown
      go_wp2
      go_ret
      exact ⟨v', rfl, by rw [HT2.out]; exact hown4, kr3⟩
end Go.Proofs.YtlfmpoinjbmjoaaGreatDoor

namespace Go.Proofs.YtlfmpoinjbmjoaaGreatDoor
open Go.ChangeShapes Go.WideShapes Go.ChangeAt Go.RowKit

theorem name_stop (s : ByteArray) (k : Nat) (h : k < s.size) (hn : Tp.nb s[k] = false) : Tp.name s.data.toList = false := by
  rw [Tp.name, all_nb_stop s k h hn]; simp
theorem name_end (s : ByteArray) (h : ∀ j (hj : j < s.size), Tp.nb s[j] = true) : Tp.name s.data.toList = (decide (1 ≤ s.size) && decide (s.size ≤ 16)) := by
  rw [Tp.name, all_nb_end s h, str_size]; simp

set_option maxHeartbeats 2000000 in
set_option maxRecDepth 100000 in
theorem rname_any (s : ByteArray) (w : World) (hs : s.size ≤ 1000000) :
    Calls Tryz.prog 52 #[.string s] w fun e w' => e = .returned (.bool (Tp.name s.data.toList)) ∧ w' = w := by
  go_enter Tryz.func52, Tryz.ntmps52
  go_wp2
  go_loop [3] (fun i => ∃ k : Nat, k ≤ s.size ∧ i = .int .i64 k ∧ ∀ j (hj : j < s.size), j < k → Tp.nb s[j] = true) (fun i => s.size - (intOf i).toNat)
  case atStart => exact ⟨0, Nat.zero_le _, rfl, fun j _ h => absurd h (Nat.not_lt_zero _)⟩
  case round =>
    obtain ⟨k, hk, rfl, hn⟩ := hrel
    have Hn := Lib.hid hn
    clear hn
    by_cases hlt : k < s.size
    · have hnr := Tp.nr_byte s[k]
      obtain ⟨c, hc⟩ : ∃ c : Int, (s[k].toNat : Int) = c := ⟨_, rfl⟩
      rw [hc] at hnr
      have Hnr := Lib.hid hnr
      have Hstop := Lib.hid (name_stop s k hlt)
      clear hnr
      have Hk : Hid (Tp.nr c = ((decide (97 ≤ c) && decide (c ≤ 122)) || (decide (48 ≤ c) && decide (c ≤ 57)) || (c == 45) || (c == 95))) := rfl
      by_cases h1 : 97 ≤ c <;> by_cases h2 : c ≤ 122 <;> by_cases h3 : 48 ≤ c <;> by_cases h4 : c ≤ 57 <;> by_cases h5 : (c == 45) = true <;> by_cases h6 : (c == 95) = true <;> first
        | (exfalso; simp at h5 h6; omega)
        | (have Hb : Hid (Tp.nb s[k] = true) := by
             show _ = _
             rw [← Hnr.out, Hk.out]
             simp [h1, h2, h3, h4, h5, h6]
           clear Hnr Hk Hstop
           go_wp2
           go_round
           case rel =>
             refine ⟨k + 1, hlt, by go_num, fun j hj hjk => ?_⟩
             by_cases e : j = k
             · subst e; exact Hb.out
             · exact Hn.out j hj (by omega)
           case measure => simp [intOf]; omega)
        | (have Hb : Hid (Tp.nb s[k] = false) := by
             show _ = _
             rw [← Hnr.out, Hk.out]
             simp [h1, h2, h3, h4, h5, h6]
           clear Hnr Hk
           go_wp2
           go_ret
           exact ⟨by rw [Hstop.out Hb.out]; rfl, rfl⟩)
    · have Ha := Lib.hid (name_end s fun j hj => Hn.out j hj (by omega))
      by_cases g1 : 1 ≤ s.size
      · by_cases g2 : s.size ≤ 16
        · go_wp2
          go_ret
          exact ⟨by rw [Ha.out]; simp [g1, g2]; omega, rfl⟩
        · go_wp2
          go_ret
          exact ⟨by rw [Ha.out]; simp [g2]; omega, rfl⟩
      · go_wp2
        go_ret
        exact ⟨by rw [Ha.out]; simp [g1], rfl⟩

/-- a text's levels in memory, opened -/
theorem lev_open {w : World} {base : Nat} {v : Value} {l : Tp.L} (h : OwnS w base v (Tp.lev l)) :
    ∃ g off cap, v = .slice (some ⟨g, off, none⟩) (Tp.lev l).length cap ∧ (Tp.lev l).length ≤ cap ∧ cap ≤ maxLen ∧ ∀ i (hi : i < (Tp.lev l).length), ∃ p : ByteArray, w.cell? ⟨g, off + i, none⟩ = some (.string p) ∧ p.data.toList = (Tp.lev l)[i] := by
  obtain ⟨a, cap, rfl, h1, h2, h3⟩ := h.strs
  rcases h3 with h3 | ⟨g, off, rfl, hg, hc⟩
  · exact absurd h3 (Tp.lev_ne l)
  · refine ⟨g, off, cap, rfl, h1, h2, fun i hi => ?_⟩
    obtain ⟨p, c1, c2⟩ := strs_at hc i hi
    exact ⟨p, c1, by rw [← toList_eq]; exact c2⟩
theorem right_at_stop {s : Tp.L} {k : Nat} (hk : k < (Tp.lev s).length) (h : Tp.name (Tp.lev s)[k] = false) : Tp.right s = false := by
  have : Tp.names (Tp.lev s) = false := by
    rw [Tp.names, List.all_eq_false]
    exact ⟨_, List.getElem_mem hk, by rw [h]; simp⟩
  rw [Tp.right, this]; simp
theorem right_at_end {s : Tp.L} (h : ∀ k (hk : k < (Tp.lev s).length), Tp.name (Tp.lev s)[k] = true) : Tp.right s = decide ((Tp.lev s).length ≤ 8) := by
  have : Tp.names (Tp.lev s) = true := by
    rw [Tp.names, List.all_eq_true]
    intro x hx
    obtain ⟨k, hk, rfl⟩ := List.getElem_of_mem hx
    exact h k hk
  rw [Tp.right, this]; simp

set_option maxHeartbeats 1000000 in
set_option maxRecDepth 100000 in
theorem rright_any (s : ByteArray) (w : World) (hs : s.size ≤ 1000000) :
    Calls Tryz.prog 50 #[.string s] w fun e w' => e = .returned (.bool (Tp.right s.data.toList)) ∧ Kept w w' := by
  go_enter Tryz.func50, Tryz.ntmps50
  go_wp2_with fail
  refine (rlevels_any s _ hs).mono ?_
  rintro e w1 ⟨v, rfl, hown, k1⟩
  obtain ⟨g, off, cap, rfl, hcap, hcm, hat⟩ := lev_open hown
  have hll := Tp.lev_length s.data.toList
  rw [str_size] at hll
  have hsz : ∀ i (hi : i < (Tp.lev s.data.toList).length), (Tp.lev s.data.toList)[i].length ≤ s.size := fun i hi => by have := Tp.lev_size _ _ (List.getElem_mem hi); rw [str_size] at this; exact this
  have Hstop : Hid (∀ k (hk : k < (Tp.lev s.data.toList).length), Tp.name (Tp.lev s.data.toList)[k] = false → Tp.right s.data.toList = false) := fun k hk h => right_at_stop hk h
  have Hend := Lib.hid (right_at_end (s := s.data.toList))
  have Hat := Lib.hid hat
  have Hsz := Lib.hid hsz
  clear hown hat hsz
  obtain ⟨xs, hxs⟩ : ∃ xs, Tp.lev s.data.toList = xs := ⟨_, rfl⟩
  rw [hxs] at Hat Hend Hstop Hsz hcap hll ⊢
  clear hxs
  unfold maxLen at hcm
  go_wp2
  go_loop [4] (fun i => ∃ k : Nat, k ≤ xs.length ∧ i = .int .i64 k ∧ ∀ j (hj : j < xs.length), j < k → Tp.name xs[j] = true) (fun i => xs.length - (intOf i).toNat)
  case atStart => exact ⟨0, Nat.zero_le _, rfl, fun j _ h => absurd h (Nat.not_lt_zero _)⟩
  case round =>
    obtain ⟨k, hk, rfl, hn⟩ := hrel
    have Hn := Lib.hid hn
    clear hn
    by_cases hlt : k < xs.length
    · obtain ⟨p, cp, lp⟩ := Hat.out k hlt
      have hps : p.size ≤ s.size := by have := Hsz.out k hlt; rw [← lp, str_size] at this; exact this
      have Lp := Lib.hid lp
      clear lp
      go_wp2_with fail
      refine (rname_any p _ (by omega)).mono ?_
      rintro e w2 ⟨rfl, rfl⟩
      rw [Lp.out]
      cases hb : Tp.name xs[k] with
      | false =>
        have Hb := Lib.hid hb
        clear hb
        go_wp2
        go_ret
        exact ⟨by rw [Hstop.out k hlt Hb.out]; rfl, k1⟩
      | true =>
        have Hb := Lib.hid hb
        clear hb
        go_wp2
        go_round
        case rel =>
          refine ⟨k + 1, hlt, by go_num, fun j hj hjk => ?_⟩
          by_cases e : j = k
          · subst e; exact Hb.out
          · exact Hn.out j hj (by omega)
        case measure => simp [intOf]; omega
    · have Ha := Lib.hid (Hend.out fun j hj => Hn.out j hj (by omega))
      go_wp2
      go_ret
      exact ⟨by rw [Ha.out]; simp; omega, k1⟩

namespace Tp
theorem filt_iff : ∀ xs : List L, filt xs = true ↔ ∀ i (h : i < xs.length), part xs[i] = true ∨ (xs[i] = hash ∧ i + 1 = xs.length)
  | [] => ⟨fun _ i h => absurd h (Nat.not_lt_zero _), fun _ => rfl⟩
  | [x] => by
    rw [filt, Bool.or_eq_true, beq_iff_eq]
    constructor
    · intro h i hi
      have : i = 0 := by simp at hi; exact hi
      subst this
      exact h.elim .inl fun h => .inr ⟨h, rfl⟩
    · intro h
      exact (h 0 (by simp)).elim .inl fun h => .inr h.1
  | x :: y :: ys => by
    rw [filt, Bool.and_eq_true, filt_iff (y :: ys)]
    constructor
    · rintro ⟨h1, h2⟩ i hi
      cases i with
      | zero => exact .inl h1
      | succ i =>
        have := h2 i (by simpa using hi)
        rw [List.getElem_cons_succ]
        exact this.elim .inl fun h => .inr ⟨h.1, by rw [List.length_cons, h.2]⟩
    · intro h
      refine ⟨?_, fun i hi => ?_⟩
      · rcases h 0 (by simp) with h | h
        · exact h
        · simp at h
      · have := h (i + 1) (by simpa using hi)
        rw [List.getElem_cons_succ] at this
        exact this.elim .inl fun h => .inr ⟨h.1, by have := h.2; rw [List.length_cons] at this; omega⟩
theorem filter_at_stop {s : L} {k : Nat} (hk : k < (lev s).length) (h1 : part (lev s)[k] = false) (h2 : ¬ ((lev s)[k] = hash ∧ k + 1 = (lev s).length)) : filter s = false := by
  have : filt (lev s) = false := by
    rw [← Bool.not_eq_true, filt_iff]
    intro h
    rcases h k hk with h | h
    · rw [h1] at h; cases h
    · exact h2 h
  rw [filter, this]; simp
theorem filter_at_end {s : L} (h : ∀ i (h : i < (lev s).length), part (lev s)[i] = true ∨ ((lev s)[i] = hash ∧ i + 1 = (lev s).length)) : filter s = decide ((lev s).length ≤ 8) := by
  rw [filter, (filt_iff _).2 h]; simp
end Tp

set_option maxHeartbeats 2000000 in
set_option maxRecDepth 100000 in
theorem rfilter_any (s : ByteArray) (w : World) (hs : s.size ≤ 1000000) :
    Calls Tryz.prog 28 #[.string s] w fun e w' => e = .returned (.bool (Tp.filter s.data.toList)) ∧ Kept w w' := by
  go_enter Tryz.func28, Tryz.ntmps28
  go_wp2_with fail
  refine (rlevels_any s _ hs).mono ?_
  rintro e w1 ⟨v, rfl, hown, k1⟩
  obtain ⟨g, off, cap, rfl, hcap, hcm, hat⟩ := lev_open hown
  have hll := Tp.lev_length s.data.toList
  rw [str_size] at hll
  have hsz : ∀ i (hi : i < (Tp.lev s.data.toList).length), (Tp.lev s.data.toList)[i].length ≤ s.size := fun i hi => by have := Tp.lev_size _ _ (List.getElem_mem hi); rw [str_size] at this; exact this
  have Hstop : Hid (∀ k (hk : k < (Tp.lev s.data.toList).length), Tp.part (Tp.lev s.data.toList)[k] = false → ¬ ((Tp.lev s.data.toList)[k] = Tp.hash ∧ k + 1 = (Tp.lev s.data.toList).length) → Tp.filter s.data.toList = false) := fun k hk h1 h2 => Tp.filter_at_stop hk h1 h2
  have Hend := Lib.hid (Tp.filter_at_end (s := s.data.toList))
  have Hat := Lib.hid hat
  have Hsz := Lib.hid hsz
  clear hown hat hsz
  obtain ⟨xs, hxs⟩ : ∃ xs, Tp.lev s.data.toList = xs := ⟨_, rfl⟩
  rw [hxs] at Hat Hend Hstop Hsz hcap hll ⊢
  clear hxs
  unfold maxLen at hcm
  go_wp2
  go_loop [4] (fun i => ∃ k : Nat, k ≤ xs.length ∧ i = .int .i64 k ∧ ∀ j (hj : j < xs.length), j < k → Tp.part xs[j] = true ∨ (xs[j] = Tp.hash ∧ j + 1 = xs.length)) (fun i => xs.length - (intOf i).toNat)
  case atStart => exact ⟨0, Nat.zero_le _, rfl, fun j _ h => absurd h (Nat.not_lt_zero _)⟩
  case round =>
    obtain ⟨k, hk, rfl, hn⟩ := hrel
    have Hn := Lib.hid hn
    clear hn
    by_cases hlt : k < xs.length
    · obtain ⟨p, cp, lp⟩ := Hat.out k hlt
      have hps : p.size ≤ s.size := by have := Hsz.out k hlt; rw [← lp, str_size] at this; exact this
      have Lp := Lib.hid lp
      have Hst := Lib.hid (Hstop.out k hlt)
      have Hpt : Hid (Tp.part xs[k] = (Tp.name p.data.toList || p.toList == [43])) := by
        show _ = _
        rw [← lp, toList_eq]; rfl
      have Hhs : Hid (xs[k] = Tp.hash ↔ (p.toList == [35]) = true) := by
        show _ ↔ _
        rw [← lp, toList_eq, beq_iff_eq]
      clear lp
      have Hgo : Hid ((Tp.part xs[k] = true ∨ (xs[k] = Tp.hash ∧ k + 1 = xs.length)) → ∀ j (hj : j < xs.length), j < k + 1 → Tp.part xs[j] = true ∨ (xs[j] = Tp.hash ∧ j + 1 = xs.length)) := by
        intro h j hj hjk
        by_cases e : j = k
        · subst e; exact h
        · exact Hn.out j hj (by omega)
      go_wp2_with fail
      refine (rname_any p _ (by omega)).mono ?_
      rintro e w2 ⟨rfl, rfl⟩
      cases hb : Tp.name p.data.toList with
      | true =>
        rw [hb] at Hpt
        clear hb
        go_wp2
        go_round
        case rel => exact ⟨k + 1, hlt, by go_num, Hgo.out (.inl (by rw [Hpt.out]; rfl))⟩
        case measure => simp [intOf]; omega
      | false =>
        rw [hb] at Hpt
        clear hb
        by_cases e1 : (p.toList == [43]) = true
        · have e2 : (p.toList != [43]) = false := by simp [bne, e1]
          rw [e1] at Hpt
          go_wp2
          go_round
          case rel => exact ⟨k + 1, hlt, by go_num, Hgo.out (.inl (by rw [Hpt.out]; rfl))⟩
          case measure => simp [intOf]; omega
        · rw [Bool.not_eq_true] at e1
          have e2 : (p.toList != [43]) = true := by simp [bne, e1]
          rw [e1] at Hpt
          by_cases e3 : (p.toList == [35]) = true
          · have e4 : (p.toList != [35]) = false := by simp [bne, e3]
            by_cases hl : k + 1 = xs.length
            · have hl2 : ¬ ((k : Int) < (xs.length : Int) - 1) := by omega
              go_wp2
              go_round
              case rel => exact ⟨k + 1, hlt, by go_num, Hgo.out (.inr ⟨Hhs.out.2 e3, hl⟩)⟩
              case measure => simp [intOf]; omega
            · have hl2 : (k : Int) < (xs.length : Int) - 1 := by omega
              go_wp2
              go_ret
              exact ⟨by rw [Hst.out Hpt.out (fun h => hl h.2)]; rfl, k1⟩
          · rw [Bool.not_eq_true] at e3
            have e4 : (p.toList != [35]) = true := by simp [bne, e3]
            go_wp2
            go_ret
            exact ⟨by rw [Hst.out Hpt.out (fun h => by have := Hhs.out.1 h.1; rw [e3] at this; cases this)]; rfl, k1⟩
    · have Ha := Lib.hid (Hend.out fun j hj => Hn.out j hj (by omega))
      go_wp2
      go_ret
      exact ⟨by rw [Ha.out]; simp; omega, k1⟩
end Go.Proofs.YtlfmpoinjbmjoaaGreatDoor
