/-
  The document's own levels, names, topics and filters: the walks of rivuletref03.Levels, Name, Right, Filter.
-/
import Derived.Test.YtbenjenifklejaaDoorTlevels
import Derived.Test.YtbenjenifklejaaDoorTmath2
import Derived.Deep.DeepCutAuto
namespace Go.Proofs.YtbenjenifklejaaDoor
open Go.ChangeShapes Go.WideShapes Go.ChangeAt Go.RowKit

theorem own_empty (w : World) : OwnS (w.alloc (.cells #[] 9)) w.heap.size (.slice (some ⟨w.heap.size, 0, none⟩) 0 0) [] :=
  ⟨rfl, .inr ⟨w.heap.size, 0, #[], rfl, Nat.le_refl _, heap_alloc_new w _, Nat.le_refl _, Nat.zero_le _, rfl, rfl⟩⟩

/-- how far the document's levels have come -/
structure LTo (l : Tp.L) (xs : List Tp.L) (f k : Nat) : Prop where
  fk : f ≤ k
  kl : k ≤ l.length
  cnt : xs.length ≤ f
  no : ∀ c ∈ (l.drop f).take (k - f), c ≠ 47
  eq : Tp.lev l = xs ++ Tp.lev (l.drop f)
theorem LTo.start (l : Tp.L) : LTo l [] 0 0 := ⟨Nat.le_refl _, Nat.zero_le _, Nat.le_refl _, fun c hc => by simp at hc, rfl⟩
theorem LTo.more {l : Tp.L} {xs : List Tp.L} {f k : Nat} (h : LTo l xs f k) (c : UInt8) (hc : l[k]? = some c) (hn : c ≠ 47) : LTo l xs f (k + 1) := by
  have hk : k < l.length := by
    rcases Nat.lt_or_ge k l.length with h | h
    · exact h
    · rw [List.getElem?_eq_none h] at hc; cases hc
  have fk := h.fk
  refine ⟨by omega, hk, h.cnt, fun d hd => ?_, h.eq⟩
  rw [show k + 1 - f = k - f + 1 by omega, List.take_add_one] at hd
  rcases List.mem_append.1 hd with hd | hd
  · exact h.no d hd
  · rw [List.getElem?_drop, show f + (k - f) = k by omega, hc] at hd
    simp at hd
    subst hd; exact hn
theorem LTo.cut {l : Tp.L} {xs : List Tp.L} {f k : Nat} (h : LTo l xs f k) (hc : l[k]? = some 47) : LTo l (xs ++ [(l.drop f).take (k - f)]) (k + 1) (k + 1) := by
  have hk : k < l.length := by
    rcases Nat.lt_or_ge k l.length with h | h
    · exact h
    · rw [List.getElem?_eq_none h] at hc; cases hc
  have fk := h.fk
  refine ⟨Nat.le_refl _, hk, by rw [List.length_append, List.length_singleton]; have := h.cnt; omega, fun c hc => by simp at hc, ?_⟩
  have e : l.drop f = (l.drop f).take (k - f) ++ 47 :: l.drop (k + 1) := by
    have e1 : (l.drop f).drop (k - f) = 47 :: l.drop (k + 1) := by
      rw [List.drop_drop, show f + (k - f) = k by omega, List.drop_eq_getElem_cons hk]
      rw [List.getElem?_eq_getElem hk] at hc
      rw [Option.some.inj hc]
    rw [← e1, List.take_append_drop]
  rw [h.eq, List.append_assoc, List.singleton_append]
  congr 1
  conv => lhs; rw [e]
  exact Tp.lev_cut _ _ h.no
theorem LTo.done_ {l : Tp.L} {xs : List Tp.L} {f : Nat} (h : LTo l xs f l.length) : Tp.lev l = xs ++ [l.drop f] := by
  rw [h.eq, Tp.lev_one]
  intro c hc
  refine h.no c ?_
  rw [List.take_of_length_le (by rw [List.length_drop]; exact Nat.le_refl _)]
  exact hc

set_option maxHeartbeats 1000000 in
set_option maxRecDepth 100000 in
theorem rlevels_any (s : ByteArray) (w : World) (hs : s.size ≤ 1000000) :
    Calls Tryd.prog 52 #[.string s] w fun e w' => ∃ v, e = .returned v ∧ OwnS w' w.heap.size v (Tp.lev s.data.toList) ∧ Kept w w' := by
  obtain ⟨i0, hi, hz0, hz1, hz2⟩ := info_parts infoStr
  have Hi := Lib.hid hi
  have Hz0 := Lib.hid hz0
  have Hz1 := Lib.hid hz1
  have Hz2 := Lib.hid hz2
  clear hi hz0 hz1 hz2
  have Hl := Lib.hid (str_size s)
  go_enter Tryd.func52, Tryd.ntmps52
  go_wp2
  go_loopw [3, 4, 5] (fun v f i wr => ∃ (xs : List (List UInt8)) (F k : Nat), f = .int .i64 F ∧ i = .int .i64 k ∧ OwnS wr w.heap.size v xs ∧ Kept w wr ∧ LTo s.data.toList xs F k) (fun _ _ i _ => s.size - (intOf i).toNat)
  case atStart => exact ⟨[], 0, 0, rfl, rfl, own_empty w, Kept.alloc (Kept.refl w) _, LTo.start _⟩
  case round =>
    obtain ⟨xs, F, k, rfl, rfl, hown, kr, hto⟩ := hrel
    have hfk := hto.fk
    have hkl := hto.kl
    have hxs := hto.cnt
    rw [Hl.out] at hkl
    have HT := Lib.hid hto
    clear hto
    by_cases hk : k < s.size
    · have hbt := byte_at s k hk
      by_cases hb : s[k] = 47
      · have e1 : ((s[k].toNat : Int) == 47) = true := by rw [hb]; rfl
        have HT2 := Lib.hid (HT.out.cut (by rw [hbt, hb]))
        have Hx : Hid ((s.extract F k).data.toList = (s.data.toList.drop F).take (k - F)) := extract_list s F k
        clear hbt hb
        obtain ⟨p, hp⟩ : ∃ p, s.extract F k = p := ⟨_, rfl⟩
        rw [hp] at Hx
        go_wp2_with (first
          | (at_builtin; refine wpList_append_own _ rfl _ _ 57 rfl w.heap.size 9 i0 (.string ⟨#[]⟩) 1 16 Tryd.underlying57 Hi.out Hz0.out Hz1.out Hz2.out rfl (by decide) _ _ _ rfl (World.ownsRow.alloc hown _) ⟨wr.heap.size, 0, none⟩ 1 1 [.string p] rfl rfl (one_cell _ _) (one_one _) (by unfold maxLen; omega) (by omega) (by have := kr.size; simp; omega) ?_))
        intro v' w3 hown3 hgrow _
        have kr3 : Kept w w3 := kept_grown (kr.alloc _) hgrow (fun k hk => (World.ownsRow.lt hown k hk).1)
        have hown4 := own_snoc (x := (s.data.toList.drop F).take (k - F)) (by rw [← Hx.out]; rfl) hown3
        clear hown3 hgrow hown
        go_wp2
        go_roundw
        case rel => exact ⟨_, k + 1, k + 1, by go_num, by go_num, hown4, kr3, HT2.out⟩
        case measure => simp [intOf]; omega
      · have e1 : ((s[k].toNat : Int) == 47) = false := by
          rw [beq_eq_false_iff_ne]
          intro e
          exact hb (UInt8.toNat_inj.1 (by show _ = 47; omega))
        have HT2 := Lib.hid (HT.out.more _ hbt hb)
        clear hbt hb
        go_wp2
        go_roundw
        case rel => exact ⟨xs, F, k + 1, rfl, by go_num, hown, kr, HT2.out⟩
        case measure => simp [intOf]; omega
    · have hke : k = s.size := by omega
      subst hke
      have HT2 : Hid (Tp.lev s.data.toList = xs ++ [(s.extract F s.size).data.toList]) := by
        show _ = _
        have := HT.out
        rw [← Hl.out] at this
        rw [this.done_, extract_list, List.take_of_length_le (by rw [List.length_drop, Hl.out]; exact Nat.le_refl _)]
      obtain ⟨p, hp⟩ : ∃ p, s.extract F s.size = p := ⟨_, rfl⟩
      rw [hp] at HT2
      go_wp2_with (first
        | (at_builtin; refine wpList_append_own _ rfl _ _ 57 rfl w.heap.size 9 i0 (.string ⟨#[]⟩) 1 16 Tryd.underlying57 Hi.out Hz0.out Hz1.out Hz2.out rfl (by decide) _ _ _ rfl (World.ownsRow.alloc hown _) ⟨wr.heap.size, 0, none⟩ 1 1 [.string p] rfl rfl (one_cell _ _) (one_one _) (by unfold maxLen; omega) (by omega) (by have := kr.size; simp; omega) ?_))
      intro v' w3 hown3 hgrow _
      have kr3 : Kept w w3 := kept_grown (kr.alloc _) hgrow (fun k hk => (World.ownsRow.lt hown k hk).1)
      have hown4 := own_snoc (x := p.data.toList) rfl hown3
      clear hown3 hgrow hown
      go_wp2
      go_ret
      exact ⟨v', rfl, by rw [HT2.out]; exact hown4, kr3⟩
end Go.Proofs.YtbenjenifklejaaDoor
