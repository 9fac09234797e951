/-
  The document's own order: the walks of rivuletref01.Less and rivuletref03.Less.
-/
import Derived.Test.YtalebnhkidhglaaGreatTref2
import Derived.Deep.QuietTactic
namespace Go.Proofs.YtalebnhkidhglaaGreat
open Go.ChangeShapes Go.WideShapes Go.ChangeAt Go.RowKit

theorem at_len (a : ByteArray) (k : Nat) (h : k < a.size) : a.data.toList.drop k = a[k] :: a.data.toList.drop (k + 1) := by
  rw [List.drop_eq_getElem_cons (by simpa using h)]
  rfl
/-- being ahead, where both are alike so far -/
theorem bl_at (a b : ByteArray) (k : Nat) (ha : k < a.size) (hb : k < b.size) (hd : a[k] ≠ b[k]) : Op.bytesLess (a.data.toList.drop k) (b.data.toList.drop k) = decide (a[k].toNat < b[k].toNat) := by
  rw [at_len a k ha, at_len b k hb]
  by_cases h : a[k].toNat < b[k].toNat
  · rw [(bl_cons ..).2 (.inl h)]; simp [h]
  · have : Op.bytesLess (a[k] :: a.data.toList.drop (k + 1)) (b[k] :: b.data.toList.drop (k + 1)) = false := by
      rw [← Bool.not_eq_true, bl_cons]
      rintro (h' | ⟨h', _⟩)
      · exact h h'
      · exact hd h'
    rw [this]; simp [h]
theorem bl_next (a b : ByteArray) (k : Nat) (ha : k < a.size) (hb : k < b.size) (hd : a[k] = b[k]) : Op.bytesLess (a.data.toList.drop k) (b.data.toList.drop k) = Op.bytesLess (a.data.toList.drop (k + 1)) (b.data.toList.drop (k + 1)) := by
  rw [at_len a k ha, at_len b k hb, hd, Op.bytesLess]
  simp
theorem bl_ends (a b : ByteArray) (k : Nat) (hk : k ≤ a.size) (hk2 : k ≤ b.size) (h : ¬ (k < a.size ∧ k < b.size)) : Op.bytesLess (a.data.toList.drop k) (b.data.toList.drop k) = decide (a.size < b.size) := by
  by_cases ha : k < a.size
  · have hb : b.data.toList.drop k = [] := List.drop_of_length_le (by rw [str_size]; omega)
    rw [hb]
    have e : Op.bytesLess (a.data.toList.drop k) [] = false := by cases a.data.toList.drop k <;> rfl
    rw [e]; simp; omega
  · have h1 : a.data.toList.drop k = [] := List.drop_of_length_le (by rw [str_size]; omega)
    rw [h1]
    by_cases hb : k < b.size
    · rw [at_len b k hb]; simp [Op.bytesLess]; omega
    · have h2 : b.data.toList.drop k = [] := List.drop_of_length_le (by rw [str_size]; omega)
      rw [h2]; simp [Op.bytesLess]; omega

set_option maxHeartbeats 1000000 in
theorem refless_draws (a b : ByteArray) (w : World) (ha : a.size ≤ 1000) (_hb : b.size ≤ 1000) :
    Calls Tryz.prog 85 #[.string a, .string b] w fun e w' => e = .returned (.bool (Op.bytesLess a.toList b.toList)) ∧ ∃ m, w' = w.drewN m := by
  go_enter Tryz.func85, Tryz.ntmps85
  go_wp2
  go_loopw [5] (fun i wr => ∃ k : Nat, k ≤ a.size ∧ k ≤ b.size ∧ i = .int .i64 k ∧ Op.bytesLess a.toList b.toList = Op.bytesLess (a.data.toList.drop k) (b.data.toList.drop k) ∧ ∃ m, wr = w.drewN m) (fun i _ => a.size - (intOf i).toNat)
  case atStart => exact ⟨0, Nat.zero_le _, Nat.zero_le _, rfl, by rw [toList_eq, toList_eq]; rfl, 0, rfl⟩
  case round =>
    obtain ⟨k, hka, hkb, rfl, hL, m, rfl⟩ := hrel
    have HL := Lib.hid hL
    clear hL
    by_cases hlt : k < a.size ∧ k < b.size
    · obtain ⟨h1, h2⟩ := hlt
      by_cases hd : a[k] = b[k]
      · have Hn := Lib.hid (bl_next a b k h1 h2 hd)
        have hne : (((a[k]).toNat : Int) != ((b[k]).toNat : Int)) = false := by rw [hd]; simp
        clear hd
        go_wp2_with fail
        go_quiet (fail)
        go_wp2
        go_roundw
        case rel => exact ⟨k + 1, by omega, by omega, by go_num, by rw [HL.out, Hn.out], _, rfl⟩
        case measure => simp [intOf]; omega
      · have Hn := Lib.hid (bl_at a b k h1 h2 hd)
        have hne : (((a[k]).toNat : Int) != ((b[k]).toNat : Int)) = true := by
          rw [bne_iff_ne]
          intro e
          exact hd (UInt8.toNat_inj.1 (by omega))
        clear hd
        go_wp2_with fail
        go_quiet (fail)
        go_wp2
        go_quiet (fail)
        go_wp2
        go_ret
        exact ⟨by rw [HL.out, Hn.out]; rfl, _, by rw [World.drewN_drewN, World.drewN_drewN]⟩
    · have Hn := Lib.hid (bl_ends a b k hka hkb hlt)
      by_cases hx : k < a.size
      · have hy : ¬ k < b.size := by omega
        clear hlt
        go_wp2
        go_ret
        exact ⟨by rw [HL.out, Hn.out]; rfl, _, rfl⟩
      · clear hlt
        go_wp2
        go_ret
        exact ⟨by rw [HL.out, Hn.out]; rfl, _, rfl⟩

namespace Tp
theorem les_next {xs ys : List L} {k : Nat} (h1 : k < xs.length) (h2 : k < ys.length) (h : xs[k] = ys[k]) : les (xs.drop k) (ys.drop k) = les (xs.drop (k + 1)) (ys.drop (k + 1)) := by
  rw [List.drop_eq_getElem_cons h1, List.drop_eq_getElem_cons h2, les, if_pos h]
theorem les_at {xs ys : List L} {k : Nat} (h1 : k < xs.length) (h2 : k < ys.length) (h : xs[k] ≠ ys[k]) : les (xs.drop k) (ys.drop k) = Op.bytesLess xs[k] ys[k] := by
  rw [List.drop_eq_getElem_cons h1, List.drop_eq_getElem_cons h2, les, if_neg h]
theorem les_ends {xs ys : List L} {k : Nat} (h1 : k ≤ xs.length) (h2 : k ≤ ys.length) (h : ¬ (k < xs.length ∧ k < ys.length)) : les (xs.drop k) (ys.drop k) = decide (xs.length < ys.length) := by
  by_cases ha : k < xs.length
  · have hb : ys.drop k = [] := List.drop_of_length_le (by omega)
    rw [hb, List.drop_eq_getElem_cons ha, les]; simp; omega
  · have ha2 : xs.drop k = [] := List.drop_of_length_le (by omega)
    rw [ha2]
    by_cases hb : k < ys.length
    · rw [List.drop_eq_getElem_cons hb, les]; simp; omega
    · have hb2 : ys.drop k = [] := List.drop_of_length_le (by omega)
      rw [hb2, les]; simp; omega
end Tp

set_option maxHeartbeats 2000000 in
set_option maxRecDepth 100000 in
theorem rless_any (s t : ByteArray) (w : World) (hs : s.size ≤ 1000) (ht : t.size ≤ 1000) :
    Calls Tryz.prog 62 #[.string s, .string t] w fun e w' => e = .returned (.bool (Tp.less s.data.toList t.data.toList)) ∧ Kept w w' := by
  go_enter Tryz.func62, Tryz.ntmps62
  go_wp2_with fail
  refine (rlevels_any s _ (by omega)).mono ?_
  rintro e w1 ⟨v, rfl, hown1, k1⟩
  go_wp2_with fail
  refine (rlevels_any t _ (by omega)).mono ?_
  rintro e w2 ⟨v2, rfl, hown2, k2⟩
  have hown1' := hown1.kept k2
  obtain ⟨g1, off1, cap1, rfl, hcap1, hcm1, hat1⟩ := lev_open hown1'
  obtain ⟨g2, off2, cap2, rfl, hcap2, hcm2, hat2⟩ := lev_open hown2
  have hl1 := Tp.lev_length s.data.toList
  have hl2 := Tp.lev_length t.data.toList
  rw [str_size] at hl1 hl2
  have hz1 : ∀ i (hi : i < (Tp.lev s.data.toList).length), (Tp.lev s.data.toList)[i].length ≤ s.size := fun i hi => by have := Tp.lev_size _ _ (List.getElem_mem hi); rw [str_size] at this; exact this
  have hz2 : ∀ i (hi : i < (Tp.lev t.data.toList).length), (Tp.lev t.data.toList)[i].length ≤ t.size := fun i hi => by have := Tp.lev_size _ _ (List.getElem_mem hi); rw [str_size] at this; exact this
  have Hd : Hid (Tp.less s.data.toList t.data.toList = Tp.les ((Tp.lev s.data.toList).drop 0) ((Tp.lev t.data.toList).drop 0)) := rfl
  have H1 := Lib.hid hat1
  have H2 := Lib.hid hat2
  have Hz1 := Lib.hid hz1
  have Hz2 := Lib.hid hz2
  have k12 := k1.trans k2
  clear hown1 hown1' hown2 hat1 hat2 hz1 hz2 k1 k2
  obtain ⟨xs, hxs⟩ : ∃ xs, Tp.lev s.data.toList = xs := ⟨_, rfl⟩
  obtain ⟨ys, hys⟩ : ∃ ys, Tp.lev t.data.toList = ys := ⟨_, rfl⟩
  rw [hxs] at H1 Hz1 Hd hcap1 hl1 ⊢
  rw [hys] at H2 Hz2 Hd hcap2 hl2 ⊢
  clear hxs hys
  unfold maxLen at hcm1 hcm2
  go_wp2
  go_loopw [7] (fun i wr => ∃ k : Nat, k ≤ xs.length ∧ k ≤ ys.length ∧ i = .int .i64 k ∧ Tp.less s.data.toList t.data.toList = Tp.les (xs.drop k) (ys.drop k) ∧ ∃ m, wr = w2.drewN m) (fun i _ => xs.length - (intOf i).toNat)
  case atStart => exact ⟨0, Nat.zero_le _, Nat.zero_le _, rfl, Hd.out, 0, rfl⟩
  case round =>
    obtain ⟨k, hka, hkb, rfl, hL, m, rfl⟩ := hrel
    have HL := Lib.hid hL
    clear hL
    by_cases hlt : k < xs.length ∧ k < ys.length
    · obtain ⟨h1, h2⟩ := hlt
      obtain ⟨p, cp, lp⟩ := H1.out k h1
      obtain ⟨q, cq, lq⟩ := H2.out k h2
      have sp : p.size ≤ 1000 := by have := Hz1.out k h1; rw [← lp, str_size] at this; omega
      have sq : q.size ≤ 1000 := by have := Hz2.out k h2; rw [← lq, str_size] at this; omega
      by_cases hd : p.data.toList = q.data.toList
      · have Hn := Lib.hid (Tp.les_next h1 h2 (by rw [← lp, ← lq, hd]))
        have e1 : (p.toList == q.toList) = true := by rw [toList_eq, toList_eq, hd]; simp
        have e2 : (p.toList != q.toList) = false := by simp [bne, e1]
        clear hd lp lq
        go_wp2_with fail
        go_quiet (fail)
        go_wp2
        go_roundw
        case rel => exact ⟨k + 1, by omega, by omega, by go_num, by rw [HL.out, Hn.out], _, rfl⟩
        case measure => simp [intOf]; omega
      · have Hn := Lib.hid (Tp.les_at h1 h2 (by rw [← lp, ← lq]; exact hd))
        have e1 : (p.toList == q.toList) = false := by rw [toList_eq, toList_eq]; exact beq_eq_false_iff_ne.2 hd
        have e2 : (p.toList != q.toList) = true := by simp [bne, e1]
        have Hv := Lib.hid (show Op.bytesLess p.toList q.toList = Op.bytesLess xs[k] ys[k] by rw [toList_eq, toList_eq, lp, lq])
        clear hd lp lq
        go_wp2_with fail
        go_quiet (fail)
        go_wp2
        have kW : Kept w2 ((w2.drewN m).drewN nq) := kept_drewN (kept_drewN (Kept.refl w2) _) _
        have cp2 : ((w2.drewN m).drewN nq).cell? ⟨g1, off1 + k, none⟩ = some (.string p) := by simpa using cp
        have cq2 : ((w2.drewN m).drewN nq).cell? ⟨g2, off2 + k, none⟩ = some (.string q) := by simpa using cq
        generalize (w2.drewN m).drewN nq = W at kW cp2 cq2 ⊢
        go_quiet (first | (go_at_call 85; refine Calls.quiet_of (refless_draws p q _ sp sq)))
        go_wp2
        go_ret
        exact ⟨by rw [HL.out, Hn.out, ← Hv.out]; rfl, k12.trans (kept_drewN kW _)⟩
    · have Hn := Lib.hid (Tp.les_ends hka hkb hlt)
      by_cases hx : k < xs.length
      · have hy : ¬ k < ys.length := by omega
        clear hlt
        go_wp2
        go_ret
        exact ⟨by rw [HL.out, Hn.out]; rfl, k12.trans (kept_drewN (Kept.refl w2) _)⟩
      · clear hlt
        go_wp2
        go_ret
        exact ⟨by rw [HL.out, Hn.out]; rfl, k12.trans (kept_drewN (Kept.refl w2) _)⟩
end Go.Proofs.YtalebnhkidhglaaGreat
