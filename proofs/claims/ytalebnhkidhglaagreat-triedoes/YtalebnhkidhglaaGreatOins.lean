/-
  Parts of rows behind rows; the walk of the document's Insert.
-/
import Derived.Test.YtalebnhkidhglaaGreatOrow
import Derived.Test.YtalebnhkidhglaaGreatOmath
import Derived.Test.YtalebnhkidhglaaGreatTref3
import Derived.Test.YtalebnhkidhglaaGreatRquiet
namespace Go.Proofs.YtalebnhkidhglaaGreat
open Go.ChangeShapes Go.WideShapes Go.ChangeAt Go.RowKit

/-- a row of the call's own that is not nil -/
def OwnN (w : World) (base : Nat) (v : Value) (xs : List (List UInt8)) : Prop := OwnS w base v xs ∧ ∃ g cap, v = .slice (some ⟨g, 0, none⟩) xs.length cap
theorem OwnN.kept {w w' : World} {base : Nat} {v : Value} {xs : List (List UInt8)} (h : OwnN w base v xs) (k : Kept w w') : OwnN w' base v xs := ⟨h.1.kept k, h.2⟩
theorem OwnN.mono {w : World} {base base' : Nat} {v : Value} {xs : List (List UInt8)} (h : OwnN w base v xs) (k : base' ≤ base) : OwnN w base' v xs := ⟨h.1.mono k, h.2⟩
theorem OwnN.empty (w : World) : OwnN (w.alloc (.cells #[] 9)) w.heap.size (.slice (some ⟨w.heap.size, 0, none⟩) 0 0) [] := ⟨own_empty w, _, _, rfl⟩
theorem own_below {w w' : World} {base b : Nat} {v : Value} {xs : List (List UInt8)} (h : OwnS w base v xs) (k : Below b w w') (hb : ∀ g, v.ownBlock = some g → g < b) : OwnS w' base v xs := by
  refine ⟨h.1, ?_⟩
  rcases h.2 with hn | ⟨g, cap, cur, rfl, h1, hg, rest⟩
  · exact .inl hn
  · exact .inr ⟨g, cap, cur, rfl, h1, (k.block g (hb g rfl)).trans hg, rest⟩

/-- the texts of a part of a row behind a row of the call's own -/
theorem wp_part {w : World} {ops : Array Oper} {rest : List Oper} {o : Oper} {a : Act} {Q : Exit → Act → World → Prop} {base : Nat} {v : Value} {xs : List (List UInt8)}
    (hown : OwnN w base v xs) (ys : List (List UInt8)) (hx : xs.length + ys.length ≤ 1000001) (hbase : base ≤ w.heap.size) (ad : Addr) (m c : Nat) (hm : m = ys.length) (n : Nat) (hn : n = xs.length + ys.length)
    (hcell : ∀ j u, (ys.map str)[j]? = some u → w.cell? (ad.add j) = some u) (hgd : o.guard = none) (s x : Operand)
    (ho : o.op = .call { callee := .builtin .append, args := #[s, x], argTypes := #[40, 40] }) (hs : a.eval s = v) (hxe : a.eval x = .slice (some ad) m c)
    (h : ∀ g cap w', OwnN w' base (.slice (some ⟨g, 0, none⟩) n cap) (xs ++ ys) → Below base w w' → w.heap.size ≤ w'.heap.size → (∀ k, k < w.heap.size → v.ownBlock ≠ some k → w'.heap[k]? = w.heap[k]?) → wpList Tryz.prog ops Q rest (a.put o.dst (.slice (some ⟨g, 0, none⟩) n cap)) w') :
    wpList Tryz.prog ops Q (o :: rest) a w := by
  obtain ⟨hown, gv, capv, rfl⟩ := hown
  obtain ⟨i0, hi, hz0, hz1, hz2⟩ := info_parts infoStr
  subst hm
  subst hn
  refine wpList_append_own _ hgd s x 40 ho base 9 i0 (.string ⟨#[]⟩) 1 16 Tryz.underlying40 hi hz0 hz1 hz2 rfl (by decide) _ xs.length (xs.map str) hs hown ad ys.length c (ys.map str) hxe (by simp) hcell (fun u hu => by obtain ⟨x, _, rfl⟩ := List.mem_map.1 hu; rfl) (by unfold maxLen; omega) (by omega) hbase ?_
  intro v' w' hown' hgrow hnil
  have hl : (xs ++ ys).length = xs.length + ys.length := List.length_append
  obtain ⟨g, cap, rfl⟩ : ∃ g cap, v' = .slice (some ⟨g, 0, none⟩) (xs.length + ys.length) cap := by
    rcases hown'.2 with ⟨h0, _⟩ | ⟨g, cap, _, rfl, _⟩
    · exact absurd (hnil.1 h0).1 (by intro e; cases e)
    · exact ⟨g, cap, rfl⟩
  refine h g cap w' ⟨by unfold OwnS; rw [List.map_append, hl]; exact hown', g, cap, by rw [hl]⟩ ((Below.refl base w).grown hgrow hbase fun k hk => ?_) hgrow.size (fun k hk hne => hgrow.block k hk (fun e => hne e.symm))
  rcases hown.2 with ⟨e, _⟩ | ⟨g', cap', _, e, hb, _⟩
  · cases e
  · cases e; cases hk; exact hb

theorem wp_snocN {w : World} {ops : Array Oper} {rest : List Oper} {o : Oper} {a : Act} {Q : Exit → Act → World → Prop} {base : Nat} {v : Value} {xs : List (List UInt8)}
    (hown : OwnS w base v xs) (n : Nat) (hn : xs.length = n) (hx : n ≤ 1000001) (hbase : base ≤ w.heap.size) (p : ByteArray) (hgd : o.guard = none) (s x : Operand)
    (ho : o.op = .call { callee := .builtin .append, args := #[s, x], argTypes := #[40, 40] }) (hs : a.eval s = v) (hxe : a.eval x = .slice (some ⟨w.heap.size, 0, none⟩) 1 1)
    (h : ∀ g cap w', OwnN w' base (.slice (some ⟨g, 0, none⟩) (n + 1) cap) (xs ++ [p.data.toList]) → Below base w w' → wpList Tryz.prog ops Q rest (a.put o.dst (.slice (some ⟨g, 0, none⟩) (n + 1) cap)) w') :
    wpList Tryz.prog ops Q (o :: rest) a (w.alloc (.cells #[.string p] 9)) := by
  subst hn
  exact wp_snoc hown hx hbase p hgd s x ho hs hxe fun g cap w' h1 h2 => h g cap w' ⟨h1, g, cap, by simp⟩ h2

/-- a row of the call's own behind another one: either may be nil -/
theorem wp_own {w : World} {ops : Array Oper} {rest : List Oper} {o : Oper} {a : Act} {Q : Exit → Act → World → Prop} {base b : Nat} {v u : Value} {xs ys : List (List UInt8)}
    (hown : OwnS w base v xs) (hu : OwnS w b u ys) (hx : xs.length + ys.length ≤ 1000001) (hbase : base ≤ w.heap.size) (hgd : o.guard = none) (s x : Operand)
    (ho : o.op = .call { callee := .builtin .append, args := #[s, x], argTypes := #[40, 40] }) (hs : a.eval s = v) (hxe : a.eval x = u)
    (h : ∀ v' w', OwnS w' base v' (xs ++ ys) → Below base w w' → (v ≠ .slice none 0 0 → OwnN w' base v' (xs ++ ys)) → wpList Tryz.prog ops Q rest (a.put o.dst v') w') :
    wpList Tryz.prog ops Q (o :: rest) a w := by
  obtain ⟨i0, hi, hz0, hz1, hz2⟩ := info_parts infoStr
  have hN : ∀ v' w', OwnS w' base v' (xs ++ ys) → v' ≠ .slice none 0 0 → OwnN w' base v' (xs ++ ys) := by
    intro v' w' h1 h2
    refine ⟨h1, ?_⟩
    rcases h1.2 with ⟨e, _⟩ | ⟨g, cap, _, e, _⟩
    · exact absurd e h2
    · exact ⟨g, cap, e⟩
  rcases hu.2 with ⟨rfl, h0⟩ | ⟨g, cap, cur, rfl, hb, hg, _⟩
  · have hy : ys = [] := List.eq_nil_of_length_eq_zero h0
    subst hy
    rw [List.append_nil] at h hN
    have hrun := run_append_owned_none (P := Tryz.prog) w base 40 o.type 9 i0 1 Tryz.underlying40 hi v xs.length (xs.map str) hown
    refine wpList_plain hgd fun _ hK => ?_
    unfold Oper.wp execOp
    simp only [ho, resolve, invoke, builtin, Sem.run_bind, Sem.run_pure, Result.andThen_ok, List.map_toArray, List.map_cons, List.map_nil, hs, hxe, hrun]
    exact hK _ _ (h v w hown (Below.refl _ _) (fun hv => hN v w hown hv))
  · have hcell := World.ownsRow.cellAt (show w.ownsRow b 9 1 (.slice (some ⟨g, 0, none⟩) ys.length cap) ys.length (ys.map str) from hu)
    refine wpList_append_own _ hgd s x 40 ho base 9 i0 (.string ⟨#[]⟩) 1 16 Tryz.underlying40 hi hz0 hz1 hz2 rfl (by decide) _ xs.length (xs.map str) hs hown ⟨g, 0, none⟩ ys.length cap (ys.map str) hxe (by simp) (fun j u hu => ?_) (fun u hu => by obtain ⟨x, _, rfl⟩ := List.mem_map.1 hu; rfl) (by unfold maxLen; omega) (by omega) hbase ?_
    · have hj : j < ys.length := by
        rcases Nat.lt_or_ge j ys.length with q | q
        · exact q
        · rw [List.getElem?_eq_none (by simpa using q)] at hu; cases hu
      rw [Go.WideShapes.add_plain, Nat.zero_add, hcell j (by omega), hu]
    · intro v' w' hown' hgrow hnil
      have ho' : OwnS w' base v' (xs ++ ys) := by unfold OwnS; rw [List.map_append, List.length_append]; exact hown'
      refine h v' w' ho' ((Below.refl base w).grown hgrow hbase fun k hk => ?_) (fun hv => hN _ _ ho' fun e => hv (hnil.1 e).1)
      rcases hown.2 with ⟨rfl, _⟩ | ⟨g', cap', _, rfl, hb', _⟩
      · cases hk
      · cases hk; exact hb'

theorem part_cells {w : World} {base g cap : Nat} {xs : List (List UInt8)} (h : OwnS w base (.slice (some ⟨g, 0, none⟩) xs.length cap) xs) (k n : Nat) (ys : List (List UInt8)) (hy : ys = (xs.drop k).take n) :
    ∀ j u, (ys.map str)[j]? = some u → w.cell? ((⟨g, k, none⟩ : Addr).add j) = some u := by
  intro j u hu
  subst hy
  have hj : j < ((xs.drop k).take n).length := by
    rcases Nat.lt_or_ge j ((xs.drop k).take n).length with q | q
    · exact q
    · rw [List.getElem?_eq_none (by simpa using q)] at hu; cases hu
  have hj' := hj
  rw [List.length_take, List.length_drop] at hj'
  have hv : w.ownsRow base 9 1 (.slice (some ⟨g, 0, none⟩) xs.length cap) xs.length (xs.map str) := h
  have := World.ownsRow.cellAt hv (k + j) (by omega)
  rw [Go.WideShapes.add_plain, this, ← hu, List.getElem?_map, List.getElem?_map, List.getElem?_take, if_pos (by omega), List.getElem?_drop]

set_option maxHeartbeats 2000000 in
set_option maxRecDepth 100000 in
theorem rinsert_any (v : Value) (xs : List (List UInt8)) (f : ByteArray) (w : World) (base : Nat) (h : OwnN w base v xs) (hbase : base ≤ w.heap.size) (hl : xs.length ≤ 1000) (hs : ∀ x ∈ xs, x.length ≤ 1000) (hf : f.size ≤ 1000) :
    Calls Tryz.prog 40 #[v, .string f] w fun e w' => ∃ v', e = .returned v' ∧ OwnN w' base v' (Tp.ins f.data.toList xs) ∧ Kept w w' := by
  obtain ⟨hown, g, cap, rfl⟩ := h
  obtain ⟨a0, cap0, he0, hc1, hc2, hat⟩ := strs_get hown.strs
  cases he0
  unfold maxLen at hc2
  have HA := Lib.hid hat
  have HO := Lib.hid hown
  have HS := Lib.hid hs
  clear hat hown hs
  go_enter Tryz.func40, Tryz.ntmps40
  go_wp2
  go_loopw [5] (fun i wr => ∃ k : Nat, k ≤ xs.length ∧ i = .int .i64 k ∧ (∀ j (q : j < xs.length), j < k → Tp.less xs[j] f.data.toList = true) ∧ Kept w wr) (fun i _ => xs.length - (intOf i).toNat)
  case atStart => exact ⟨0, Nat.zero_le _, rfl, fun j _ q => absurd q (Nat.not_lt_zero _), Kept.refl _⟩
  case round =>
    obtain ⟨k, hk, rfl, hall, kr⟩ := hrel
    have HAll := Lib.hid hall
    clear hall
    by_cases hlt : k < xs.length
    · obtain ⟨b, off, p, hbo, hb, hc, lp⟩ := HA.out k hlt
      cases hbo
      have hck := (Below.cell kr (p := ⟨g, 0 + k, none⟩) hb).trans hc
      rw [Nat.zero_add] at hck
      have hps : p.size ≤ 1000 := by rw [← str_size p, lp]; exact HS.out _ (List.getElem_mem hlt)
      have LP := Lib.hid lp
      clear hc lp
      go_wp2_with fail
      refine (rless_any p f _ (by omega) (by omega)).mono ?_
      rintro e w1 ⟨rfl, k1⟩
      have hck1 := (Below.cell k1 (p := ⟨g, k, none⟩) (World.block_lt_of_cell? wr _ hck)).trans hck
      have kr1 := kr.trans k1
      clear hck
      cases hm : Tp.less p.data.toList f.data.toList with
      | true =>
        have Hm := Lib.hid hm
        clear hm hck1
        go_wp2
        go_roundw
        case rel => exact ⟨k + 1, by omega, by go_num, fun j q hj => by
                      by_cases e : j = k
                      · subst e; rw [← LP.out]; exact Hm.out
                      · exact HAll.out j q (by omega), kr1⟩
        case measure => simp [intOf]; omega
      | false =>
        have Hins := Lib.hid (Tp.ins_at f.data.toList xs k (by omega) HAll.out (fun _ => by rw [← LP.out]; exact hm))
        rw [dif_pos hlt, ← LP.out] at Hins
        clear hm
        by_cases he : p.toList = f.toList
        · have e1 : (p.toList == f.toList) = true := by rw [beq_iff_eq]; exact he
          have He : Hid (p.data.toList = f.data.toList) := by show _ = _; rw [← toList_eq, ← toList_eq]; exact he
          clear he
          go_wp2
          go_ret
          refine ⟨_, rfl, ?_, kr1⟩
          rw [Hins.out, if_pos He.out]
          exact ⟨HO.out.kept kr1, _, _, rfl⟩
        · have e1 : (p.toList == f.toList) = false := by rw [beq_eq_false_iff_ne]; exact he
          have He : Hid (¬ p.data.toList = f.data.toList) := fun q => he (by rw [toList_eq, toList_eq]; exact q)
          clear he
          have hO1 := HO.out.kept kr1
          have hlt1 : (xs.take k).length = k := by rw [List.length_take]; omega
          go_wp2_with (first | (at_builtin; refine wp_part (OwnN.empty w1) (xs.take k) (by simp; omega) (by simp) ⟨g, 0, none⟩ k cap hlt1.symm k (by simp; omega) (part_cells (hO1.kept (Kept.alloc (Kept.refl w1) _)) 0 k _ (by simp)) rfl _ _ rfl rfl rfl ?_))
          intro g2 cap2 w2 o2 b2 z2 _
          have k2 : Kept w1 w2 := Below.trans (Kept.alloc (Kept.refl w1) _) b2
          have O2 := Lib.hid o2
          have HO1 := Lib.hid hO1
          clear o2 hO1
          go_wp2_with (first | (at_builtin; refine wp_snocN O2.out.1 k hlt1 (by omega) k2.size f rfl _ _ rfl rfl rfl ?_))
          intro g3 cap3 w3 o3 b3
          have k3 : Kept w1 w3 := Below.trans k2 b3
          have O3 := Lib.hid o3
          have hll : (xs.take k ++ [f.data.toList]).length = k + 1 := by rw [List.length_append, hlt1]; rfl
          have HL := Lib.hid hll
          clear o3 hll
          go_wp2_with (first | (at_builtin; refine wp_part O3.out (xs.drop k) (by rw [HL.out, List.length_drop]; omega) k3.size ⟨g, k, none⟩ (xs.length - k) (cap - k) (by rw [List.length_drop]) (k + 1 + (xs.length - k)) (by rw [HL.out, List.length_drop]) (part_cells (HO1.out.kept k3) k xs.length _ (by rw [List.take_of_length_le (by rw [List.length_drop]; omega)])) rfl _ _ rfl rfl rfl ?_))
          intro g4 cap4 w4 o4 b4 z4 _
          have k4 : Kept w1 w4 := Below.trans k3 b4
          go_wp2
          go_ret
          refine ⟨_, rfl, ?_, kr1.trans k4⟩
          rw [Hins.out, if_neg He.out, List.append_assoc]
          exact o4.mono (Nat.le_trans hbase kr1.size)
    · have Hins := Lib.hid (Tp.ins_at f.data.toList xs k (by omega) HAll.out (fun q => absurd q hlt))
      rw [dif_neg hlt] at Hins
      have hke : k = xs.length := by omega
      subst hke
      have hO1 := HO.out.kept kr
      go_wp2_with (first | (at_builtin; refine wp_part (OwnN.empty wr) xs (by simp; omega) (by simp) ⟨g, 0, none⟩ xs.length cap rfl xs.length (by simp) (part_cells (hO1.kept (Kept.alloc (Kept.refl wr) _)) 0 xs.length _ (by simp)) rfl _ _ rfl rfl rfl ?_))
      intro g2 cap2 w2 o2 b2 z2 _
      have k2 : Kept wr w2 := Below.trans (Kept.alloc (Kept.refl wr) _) b2
      have O2 := Lib.hid o2
      have HO1 := Lib.hid hO1
      clear o2 hO1
      go_wp2_with (first | (at_builtin; refine wp_snocN O2.out.1 xs.length rfl (by omega) k2.size f rfl _ _ rfl rfl rfl ?_))
      intro g3 cap3 w3 o3 b3
      have k3 : Kept wr w3 := Below.trans k2 b3
      have O3 := Lib.hid o3
      clear o3
      have hll : (xs ++ [f.data.toList]).length = xs.length + 1 := by rw [List.length_append]; rfl
      have HL := Lib.hid hll
      clear hll
      by_cases hcap : cap - xs.length = 0
      · go_wp2_with (first | (at_builtin; refine wp_part O3.out [] (by rw [HL.out]; simp; omega) k3.size ⟨g, 0, none⟩ 0 0 rfl (xs.length + 1) (by rw [HL.out]; rfl) (fun j u hu => by simp at hu) rfl _ _ rfl rfl rfl ?_))
        intro g4 cap4 w4 o4 b4 z4 _
        have k4 : Kept wr w4 := Below.trans k3 b4
        go_wp2
        go_ret
        refine ⟨_, rfl, ?_, kr.trans k4⟩
        rw [Hins.out]
        simpa using o4.mono (Nat.le_trans hbase kr.size)
      · go_wp2_with (first | (at_builtin; refine wp_part O3.out [] (by rw [HL.out]; simp; omega) k3.size ⟨g, xs.length, none⟩ 0 (cap - xs.length) rfl (xs.length + 1) (by rw [HL.out]; rfl) (fun j u hu => by simp at hu) rfl _ _ rfl rfl rfl ?_))
        intro g4 cap4 w4 o4 b4 z4 _
        have k4 : Kept wr w4 := Below.trans k3 b4
        go_wp2
        go_ret
        refine ⟨_, rfl, ?_, kr.trans k4⟩
        rw [Hins.out]
        simpa using o4.mono (Nat.le_trans hbase kr.size)
end Go.Proofs.YtalebnhkidhglaaGreat
