/-
  A call of the document's trie: the walk of rivuletlaw04.same.
-/
import Derived.Test.YtalebnhkidhglaaGreatRdoc6
import Derived.Deep.DeepCutAuto
namespace Go.Proofs.YtalebnhkidhglaaGreat
open Go.ChangeShapes Go.WideShapes Go.ChangeAt Go.RowKit Go.Maps

theorem OwnA.empty (w : World) : OwnA (w.alloc (.cells #[] 67)) w.heap.size (.slice (some ⟨w.heap.size, 0, none⟩) 0 0) [] :=
  ⟨rfl, .inr ⟨w.heap.size, 0, #[], rfl, Nat.le_refl _, heap_alloc_new w _, Nat.le_refl _, Nat.zero_le _, rfl, rfl⟩⟩
theorem OwnA.kept {w w' : World} {base : Nat} {v : Value} {rs : List AskV} (h : OwnA w base v rs) (k : Kept w w') : OwnA w' base v rs := own_kept h k
theorem OwnA.mono {w : World} {base base' : Nat} {v : Value} {rs : List AskV} (h : OwnA w base v rs) (k : base' ≤ base) : OwnA w base' v rs := World.ownsRow.mono h k
theorem doc_cut {A : Path → Int → Nat} {rs : List AskV} (hd : Doc A rs) {k : Nat} (hk : k < rs.length) : Doc (bump A (Tp.lev rs[k].f) rs[k].id 0) (rs.take k ++ rs.drop (k + 1)) := by
  obtain ⟨e1, _⟩ := set_parts rs k hk rs[k]
  refine Doc.cut (a := rs[k]) ?_
  rw [← e1]
  exact hd
theorem fine_cut {K : Nat} {rs : List AskV} (h : DFine K rs) (k : Nat) : DFine K (rs.take k ++ rs.drop (k + 1)) := by
  refine ⟨Nat.le_trans ?_ h.len, fun a ha => h.ask a ?_⟩
  · rw [List.length_append, List.length_take, List.length_drop]; omega
  · rcases List.mem_append.1 ha with q | q
    · exact List.mem_of_mem_take q
    · exact List.mem_of_mem_drop q

set_option maxHeartbeats 4000000 in
set_option maxRecDepth 100000 in
theorem rdrop_any {w0 w : World} (k0 : Kept w0 w) (r K : Nat) (rs : List AskV) (h : DTr w0 w r rs) (hK : K ≤ 900) (hf : DFine K rs) (A : Path → Int → Nat) (hd : Doc A rs) (f : ByteArray) (hfs : f.size ≤ 150) (i : Int) :
    Calls Tryz.prog 30 #[.pointer (some ⟨r, 0, none⟩), .string f, .int .i64 i] w fun e w' => e = .returned (dropV A f.data.toList i) ∧ ∃ rs', DTr w0 w' r rs' ∧ DFine (K + 1) rs' ∧ Doc (dropA A f.data.toList i) rs' ∧ Kept w0 w' ∧ DBut w w' := by
  have H := Lib.hid h
  have HF := Lib.hid hf
  have HD := Lib.hid hd
  clear h hf hd
  go_enter Tryz.func30, Tryz.ntmps30
  go_wp2_with fail
  refine (rfilter_any f _ (by omega)).mono ?_
  rintro e w1 ⟨rfl, k1⟩
  cases hft : Tp.filter f.data.toList with
  | false =>
    have HV : Hid (dropV A f.data.toList i = .tuple #[.int .i64 0, .int .i64 1] ∧ dropA A f.data.toList i = A) := by
      have : okF f.data.toList i = false := by unfold okF; rw [hft]; rfl
      unfold dropV dropA
      rw [this]
      exact ⟨rfl, by simp⟩
    clear hft
    go_wp2
    go_ret2
    exact ⟨by rw [HV.out.1]; rfl, rs, H.out.kept k1, HF.out.mono (by omega), by rw [HV.out.2]; exact HD.out, k0.trans k1, k1.dbut⟩
  | true =>
    by_cases hi : i < 0
    · have HV : Hid (dropV A f.data.toList i = .tuple #[.int .i64 0, .int .i64 1] ∧ dropA A f.data.toList i = A) := by
        have : okF f.data.toList i = false := by unfold okF; rw [decide_eq_false (by omega), Bool.and_false]
        unfold dropV dropA
        rw [this]
        exact ⟨rfl, by simp⟩
      clear hft
      go_wp2
      go_ret2
      exact ⟨by rw [HV.out.1]; rfl, rs, H.out.kept k1, HF.out.mono (by omega), by rw [HV.out.2]; exact HD.out, k0.trans k1, k1.dbut⟩
    · have HV : Hid ((A (Tp.lev f.data.toList) i = 0 → dropV A f.data.toList i = .tuple #[.int .i64 0, .int .i64 8] ∧ dropA A f.data.toList i = A) ∧ (∀ c, A (Tp.lev f.data.toList) i = c + 1 → dropV A f.data.toList i = .tuple #[.int .i64 c, .int .i64 0] ∧ dropA A f.data.toList i = bump A (Tp.lev f.data.toList) i c)) := by
        have : okF f.data.toList i = true := by unfold okF; rw [hft, decide_eq_true (by omega)]; rfl
        unfold dropV dropA
        rw [this]
        refine ⟨fun h0 => ⟨by simp [h0], by simp [h0]⟩, fun c hc => ⟨by simp [hc], by simp [hc]⟩⟩
      clear hft
      have H1 := Lib.hid (H.out.kept k1)
      go_wp2_with fail
      refine (rplace_any w1 w0.heap.size r rs H1.out.at_ f i).mono ?_
      rintro e w3 ⟨k2, ⟨j, hj, rfl, e3, e4⟩ | ⟨rfl, hno⟩⟩
      · have K3 := (k0.trans k1).trans k2
        have D3 := (k1.trans k2).dbut
        have H3 := H1.out.kept k2
        have hn := HD.out.at_ rs[j] (List.getElem_mem hj)
        have hpos := HD.out.pos rs[j] (List.getElem_mem hj)
        rw [e3, e4] at hn
        have hnK := (HF.out.ask _ (List.getElem_mem hj)).2.2
        have hrl := HF.out.len
        obtain ⟨c, hc⟩ : ∃ c, rs[j].n = c + 1 := ⟨rs[j].n - 1, by omega⟩
        rw [hc] at hn hnK
        obtain ⟨a, cap, hb, ho⟩ := H3.ex
        obtain ⟨g, p, rfl, hcm, hcl, lp, d0, d1, d2⟩ := ho.at hj
        unfold maxLen at hcm
        rw [hc] at d2
        have d2' : w3.cell? ⟨g, j * 3 + 2, none⟩ = some (.int .i64 ((c : Int) + 1)) := by rw [d2]; rfl
        have sr := box_cell hb
        have hrow := (ho.set (List.getElem?_eq_getElem hj) c)
        have hbx := (but_set w3 g (j * 3 + 2) (.int .i64 (c : Nat))).at hb (fun e => by
          obtain ⟨⟨cc, hcc⟩, _⟩ := ho.obj
          rw [← e, hb] at hcc
          cases hcc)
        have kset : Kept w0 (w3.setCell ⟨g, j * 3 + 2, none⟩ (.int .i64 (c : Nat))) := Below.setCell (p := ⟨g, j * 3 + 2, none⟩) K3 ho.obj.2.1 _
        have dset : DBut w (w3.setCell ⟨g, j * 3 + 2, none⟩ (.int .i64 (c : Nat))) := DBut.trans D3 (dbut_ask ho _ _)
        have fz : w3.frozen? ⟨g, j * 3 + 2, none⟩ = false := by obtain ⟨⟨cc, hcc⟩, _⟩ := ho.obj; simp [World.frozen?, hcc]
        have hv := HV.out.2 c hn
        have hT := DTr.set H3.own hb ho (List.getElem?_eq_getElem hj) c
        have hrown := H3.own
        have HHV := Lib.hid hv
        have HT := Lib.hid hT
        have Hrow := Lib.hid hrow
        have Hbx := Lib.hid hbx
        have Kset := Lib.hid kset
        have Dset := Lib.hid dset
        have Hown := Lib.hid hrown
        have E3 := Lib.hid e3
        have E4 := Lib.hid e4
        clear d0 d1 d2 lp ho hb H3 hv hT hrow hbx kset dset hrown hn e3 e4 hc
        by_cases hc0 : c = 0
        · subst hc0
          have HDc := Lib.hid (doc_cut HD.out hj)
          rw [E3.out, E4.out] at HDc
          have HFc := Lib.hid ((fine_cut HF.out j).mono (K' := K + 1) (by omega))
          have Hrow0 : Hid (OwnA (w3.setCell ⟨g, j * 3 + 2, none⟩ (.int .i64 0)) w0.heap.size (.slice (some ⟨g, 0, none⟩) rs.length cap) (rs.set j ⟨rs[j].f, rs[j].id, 0⟩)) := Hrow.out
          have Hbx0 : Hid ((w3.setCell ⟨g, j * 3 + 2, none⟩ (.int .i64 0)).heap[r]? = some (.cells #[.slice (some ⟨g, 0, none⟩) rs.length cap] 29 (0, 0))) := Hbx.out
          have Kset0 : Hid (Kept w0 (w3.setCell ⟨g, j * 3 + 2, none⟩ (.int .i64 0))) := Kset.out
          have Dset0 : Hid (DBut w (w3.setCell ⟨g, j * 3 + 2, none⟩ (.int .i64 0))) := Dset.out
          clear Hrow Hbx Kset Dset HT
          go_upto_region 9 with fail
          generalize w3.setCell ⟨g, j * 3 + 2, none⟩ (.int .i64 0) = w4 at Hrow0 Hbx0 Kset0 Dset0 ⊢
          clear d2' sr fz K3 D3 k2
          have sr4 := box_cell Hbx0.out
          have hsl : (rs.set j ⟨rs[j].f, rs[j].id, 0⟩).length = rs.length := List.length_set
          have HRow : Hid (OwnA w4 w0.heap.size (.slice (some ⟨g, 0, none⟩) (rs.set j ⟨rs[j].f, rs[j].id, 0⟩).length cap) (rs.set j ⟨rs[j].f, rs[j].id, 0⟩)) := by rw [hsl]; exact Hrow0.out
          have Htk : Hid (rs.take j = ((rs.set j ⟨rs[j].f, rs[j].id, 0⟩).drop 0).take j) := by show _ = _; rw [List.drop_zero, List.take_set_of_le (Nat.le_refl _)]
          have Hdr : Hid (rs.drop (j + 1) = ((rs.set j ⟨rs[j].f, rs[j].id, 0⟩).drop (j + 1)).take rs.length) := by
            show _ = _
            rw [List.drop_set_of_lt (by omega), List.take_of_length_le (by rw [List.length_drop]; omega)]
          have hlt1 : (rs.take j).length = j := by rw [List.length_take]; omega
          have ka : Kept w4 (w4.alloc (.cells #[] 67)) := Kept.alloc (Kept.refl w4) _
          have sr4a := kept_cell ka sr4
          clear hsl
          go_wp2_with (first | (at_builtin; refine wp_asks (OwnA.empty w4) (rs.take j) (by simp; omega) (by simp) ⟨g, 0, none⟩ j cap hlt1.symm (asks_part (HRow.out.kept ka) 0 j _ Htk.out) j (by simp; omega) rfl _ _ rfl rfl rfl ?_))
          rintro a5 cap5 w5 o5 g5 gg rfl
          have o5' : OwnA w5 w4.heap.size (.slice (some ⟨gg, 0, none⟩) j cap5) (rs.take j) := by simpa using o5
          have k5 : Kept w4 w5 := own_grown ka (OwnA.empty w4) g5
          have O5 := Lib.hid o5'
          have Hb5 := Lib.hid ((Below.block k5 _ (heap_lt Hbx0.out)).trans Hbx0.out)
          have sr5 := box_cell Hb5.out
          clear o5 o5' g5 ka sr4 sr4a
          by_cases hcap : cap - (j + 1) = 0
          · have Hdl : Hid (rs.drop (j + 1) = []) := List.drop_of_length_le (by omega)
            go_wp2_with (first | (at_builtin; refine wp_asks O5.out (rs.drop (j + 1)) (by rw [hlt1, List.length_drop]; omega) k5.size ⟨g, 0, none⟩ (rs.length - (j + 1)) 0 (by rw [List.length_drop]) (fun j u hu => by rw [Hdl.out] at hu; simp at hu) (j + (rs.length - (j + 1))) (by rw [hlt1, List.length_drop]) rfl _ _ rfl rfl rfl ?_))
            rintro a6 cap6 w6 o6 g6 gg6 rfl
            have k6 : Kept w4 w6 := own_grown k5 O5.out g6
            have hb6 := (Below.block k6 _ (heap_lt Hbx0.out)).trans Hbx0.out
            have sr6 := box_cell hb6
            have fz6 := box_frozen hb6
            have H7 := Lib.hid (DTr.store Hown.out hb6 (o6.mono Kset0.out.size) (by rw [List.length_append, hlt1, List.length_drop]))
            have K7 := Lib.hid (show Kept w0 (w6.setCell ⟨r, 0, none⟩ (.slice (some ⟨gg6, 0, none⟩) (j + (rs.length - (j + 1))) cap6)) from Below.setCell (p := ⟨r, 0, none⟩) (Kset0.out.trans k6) Hown.out _)
            have D7 := Lib.hid (DBut.trans (Dset0.out.trans k6.dbut) (dbut_trie hb6 0 (.slice (some ⟨gg6, 0, none⟩) (j + (rs.length - (j + 1))) cap6)))
            clear o6 g6 hb6 k6 sr5
            go_wp2
            go_ret2
            exact ⟨by rw [HHV.out.1]; rfl, _, H7.out, HFc.out, by rw [HHV.out.2]; exact HDc.out, K7.out, D7.out⟩
          · go_wp2_with (first | (at_builtin; refine wp_asks O5.out (rs.drop (j + 1)) (by rw [hlt1, List.length_drop]; omega) k5.size ⟨g, (j + 1) * 3, none⟩ (rs.length - (j + 1)) (cap - (j + 1)) (by rw [List.length_drop]) (asks_part (HRow.out.kept k5) (j + 1) rs.length _ Hdr.out) (j + (rs.length - (j + 1))) (by rw [hlt1, List.length_drop]) rfl _ _ rfl rfl rfl ?_))
            rintro a6 cap6 w6 o6 g6 gg6 rfl
            have k6 : Kept w4 w6 := own_grown k5 O5.out g6
            have hb6 := (Below.block k6 _ (heap_lt Hbx0.out)).trans Hbx0.out
            have sr6 := box_cell hb6
            have fz6 := box_frozen hb6
            have H7 := Lib.hid (DTr.store Hown.out hb6 (o6.mono Kset0.out.size) (by rw [List.length_append, hlt1, List.length_drop]))
            have K7 := Lib.hid (show Kept w0 (w6.setCell ⟨r, 0, none⟩ (.slice (some ⟨gg6, 0, none⟩) (j + (rs.length - (j + 1))) cap6)) from Below.setCell (p := ⟨r, 0, none⟩) (Kset0.out.trans k6) Hown.out _)
            have D7 := Lib.hid (DBut.trans (Dset0.out.trans k6.dbut) (dbut_trie hb6 0 (.slice (some ⟨gg6, 0, none⟩) (j + (rs.length - (j + 1))) cap6)))
            clear o6 g6 hb6 k6 sr5
            go_wp2
            go_ret2
            exact ⟨by rw [HHV.out.1]; rfl, _, H7.out, HFc.out, by rw [HHV.out.2]; exact HDc.out, K7.out, D7.out⟩
        · have e5 : ((c : Int) == 0) = false := by rw [beq_eq_false_iff_ne]; omega
          have HDc := Lib.hid (doc_set HD.out hj (c := c) (by omega))
          rw [E3.out, E4.out] at HDc
          have HFc := Lib.hid (fine_set HF.out hj (c := c) (K' := K + 1) (by omega) (by omega))
          rw [E3.out, E4.out] at HFc
          have HT1 : Hid (DTr w0 (w3.setCell ⟨g, j * 3 + 2, none⟩ (.int .i64 (c : Nat))) r (rs.set j ⟨f.data.toList, i, c⟩)) := by
            have := HT.out
            rw [E3.out, E4.out] at this
            exact this
          clear HT Hrow Hbx
          go_wp2
          go_ret2
          exact ⟨by rw [HHV.out.1]; rfl, _, HT1.out, HFc.out, by rw [HHV.out.2]; exact HDc.out, Kset.out, Dset.out⟩
      · have HN := Lib.hid (HV.out.1 (HD.out.no hno))
        clear hno
        go_wp2
        go_ret2
        exact ⟨by rw [HN.out.1]; rfl, rs, H1.out.kept k2, HF.out.mono (by omega), by rw [HN.out.2]; exact HD.out, (k0.trans k1).trans k2, (k1.trans k2).dbut⟩

theorem two_parts (rs : List AskV) (i : Int) : (rs.length : Int) - ((rs.filter fun a => decide (a.id ≠ i)).length : Int) = ((rs.filter fun a => decide (a.id = i)).length : Int) := by
  induction rs with
  | nil => rfl
  | cons a rs ih =>
    by_cases h : a.id = i
    · simp [h] at ih ⊢; omega
    · simp [h] at ih ⊢; omega
theorem fine_filter {K : Nat} {rs : List AskV} (h : DFine K rs) (p : AskV → Bool) : DFine K (rs.filter p) := ⟨Nat.le_trans (List.length_filter_le _ _) h.len, fun a ha => h.ask a (List.mem_filter.1 ha).1⟩
theorem ask_cells (w : World) (p : ByteArray) (i : Int) (n : Nat) : ∀ (j : Nat) (u : Value), (([⟨p.data.toList, i, n⟩] : List AskV).flatMap AskV.cells)[j]? = some u → (w.alloc (.cells #[.string p, .int .i64 i, .int .i64 n] 67)).cell? ((⟨w.heap.size, 0, none⟩ : Addr).add j) = some u := by
  intro j u hj
  match j, hj with
  | 0, hj => simp [AskV.cells, str] at hj; subst hj; simp [Addr.add]
  | 1, hj => simp [AskV.cells] at hj; subst hj; simp [Addr.add]
  | 2, hj => simp [AskV.cells] at hj; subst hj; simp [Addr.add]
/-- who has not left so far -/
def stayed (rs : List AskV) (i : Int) (k : Nat) : List AskV := (rs.take k).filter fun a => decide (a.id ≠ i)
theorem stayed_next (rs : List AskV) (i : Int) (k : Nat) (h : k < rs.length) : stayed rs i (k + 1) = stayed rs i k ++ (if rs[k].id = i then [] else [rs[k]]) := by
  unfold stayed
  rw [List.take_add_one, List.getElem?_eq_getElem h, List.filter_append]
  congr 1
  by_cases e : rs[k].id = i <;> simp [e]
theorem stayed_len (rs : List AskV) (i : Int) (k : Nat) : (stayed rs i k).length ≤ k := Nat.le_trans (List.length_filter_le _ _) (by rw [List.length_take]; omega)

set_option maxHeartbeats 4000000 in
set_option maxRecDepth 100000 in
theorem rleave_any {w0 w : World} (k0 : Kept w0 w) (r K : Nat) (rs : List AskV) (h : DTr w0 w r rs) (hK : K ≤ 900) (hf : DFine K rs) (A : Path → Int → Nat) (hd : Doc A rs) (i : Int) :
    Calls Tryz.prog 31 #[.pointer (some ⟨r, 0, none⟩), .int .i64 i] w fun e w' => e = .returned (.int .i64 (rs.filter fun a => decide (a.id = i)).length) ∧ ∃ rs', DTr w0 w' r rs' ∧ DFine (K + 1) rs' ∧ Doc (leaveA A i) rs' ∧ Kept w0 w' ∧ DBut w w' := by
  have HF := Lib.hid hf
  have HD := Lib.hid hd
  have hrl := hf.len
  have Hown := Lib.hid h.own
  obtain ⟨a, cap, hb, ho⟩ := h.ex
  have HB := Lib.hid hb
  have HO := Lib.hid ho
  have HC := Lib.hid (box_cell hb)
  clear h hf hd hb ho
  go_enter Tryz.func31, Tryz.ntmps31
  go_wp2
  go_loopw [5, 6] (fun lv iv wr => ∃ (k : Nat) (g' cap' : Nat), k ≤ rs.length ∧ iv = .int .i64 k ∧ lv = .slice (some ⟨g', 0, none⟩) (stayed rs i k).length cap' ∧ OwnA wr w.heap.size lv (stayed rs i k) ∧ Kept w wr) (fun _ iv _ => rs.length - (intOf iv).toNat)
  case atStart => exact ⟨0, _, _, Nat.zero_le _, rfl, rfl, OwnA.empty w, Kept.alloc (Kept.refl _) _⟩
  case round =>
    obtain ⟨k, g', cap', hk, rfl, rfl, hown, kk⟩ := hrel
    have HJ := Lib.hid hown
    have hcr := kept_cell kk HC.out
    have hsl := stayed_len rs i k
    clear hown
    by_cases hlt : k < rs.length
    · obtain ⟨g, p, rfl, hcm, hcl, lp, d0, d1, d2⟩ := HO.out.at hlt
      unfold maxLen at hcm
      have s0 := kept_cell kk d0
      have s1 := kept_cell kk d1
      have s2 := kept_cell kk d2
      have Hst := Lib.hid (stayed_next rs i k hlt)
      obtain ⟨x, hx⟩ : ∃ x, rs[k].id = x := ⟨_, rfl⟩
      obtain ⟨n, hn⟩ : ∃ n, rs[k].n = n := ⟨_, rfl⟩
      have Hrk : Hid (rs[k] = ⟨p.data.toList, x, n⟩) := by
        show _ = _
        rw [lp, ← hx, ← hn]
      rw [hx] at s1
      rw [hn] at s2
      rw [Hrk.out] at Hst
      simp only at Hst
      clear d0 d1 d2 lp hx hn
      by_cases hxi : x = i
      · have e1 : (x != i) = false := by simp [hxi]
        have e2 : (x == i) = true := by simp [hxi]
        have HX := Lib.hid hxi
        rw [if_pos hxi, List.append_nil] at Hst
        clear hxi
        go_wp2
        go_roundw
        case rel => exact ⟨k + 1, g', cap', by omega, by go_num, by rw [Hst.out], by rw [Hst.out]; exact HJ.out, kk⟩
        case measure => simp [intOf]; omega
      · have e1 : (x != i) = true := by simp [hxi]
        have e2 : (x == i) = false := by simp [hxi]
        rw [if_neg hxi] at Hst
        clear hxi
        have ka : Kept wr (wr.alloc (.cells #[.string p, .int .i64 x, .int .i64 n] 67)) := Kept.alloc (Kept.refl wr) _
        go_wp2_with (first | (at_builtin; refine wp_asks (HJ.out.kept ka) [⟨p.data.toList, x, n⟩] (by simp; omega) (by have := kk.size; simp; omega) ⟨wr.heap.size, 0, none⟩ 1 1 rfl (ask_cells wr p x n) ((stayed rs i k).length + 1) rfl rfl _ _ rfl rfl rfl ?_))
        rintro a6 cap6 w6 o6 g6 gg6 rfl
        have k6 : Kept w w6 := own_grown (kk.trans ka) (HJ.out.kept ka) g6
        have O6 := Lib.hid o6
        clear o6 g6
        have hl6 : (stayed rs i (k + 1)).length = (stayed rs i k).length + 1 := by rw [Hst.out, List.length_append]; rfl
        go_wp2
        go_roundw
        case rel => exact ⟨k + 1, gg6, cap6, by omega, by go_num, by rw [hl6], by rw [Hst.out]; exact O6.out, k6⟩
        case measure => simp [intOf]; omega
    · have hke : k = rs.length := by omega
      subst hke
      have Hst : Hid (stayed rs i rs.length = rs.filter fun a => decide (a.id ≠ i)) := by show _ = _; unfold stayed; rw [List.take_length]
      have Htp := Lib.hid (two_parts rs i)
      rw [← Hst.out] at Htp
      have hbr := (Below.block kk _ (heap_lt HB.out)).trans HB.out
      have fz := box_frozen hbr
      have H7 := Lib.hid (DTr.store Hown.out hbr (HJ.out.mono k0.size) rfl)
      have K7 := Lib.hid (show Kept w0 (wr.setCell ⟨r, 0, none⟩ (.slice (some ⟨g', 0, none⟩) (stayed rs i rs.length).length cap')) from Below.setCell (p := ⟨r, 0, none⟩) (k0.trans kk) Hown.out _)
      have D7 := Lib.hid (DBut.trans kk.dbut (dbut_trie hbr 0 (.slice (some ⟨g', 0, none⟩) (stayed rs i rs.length).length cap')))
      have hcapr : cap ≤ maxLen ∧ rs.length ≤ cap := by
        rcases HO.out.2 with ⟨e, h0⟩ | ⟨_, _, _, e, _, _, h1, h2, _⟩
        · injection e with _ e2 e3; subst e3; exact ⟨Nat.zero_le _, by omega⟩
        · injection e with _ e2 e3; subst e3; exact ⟨h2, h1⟩
      clear hbr hcapr
      go_wp2
      go_ret
      refine ⟨?_, _, H7.out, ?_, ?_, K7.out, D7.out⟩
      · rw [← Htp.out]; rfl
      · rw [Hst.out]; exact (fine_filter HF.out _).mono (by omega)
      · rw [Hst.out]; exact HD.out.leave i
end Go.Proofs.YtalebnhkidhglaaGreat

namespace Go.Proofs.YtalebnhkidhglaaGreat
open Go.ChangeShapes Go.WideShapes Go.ChangeAt Go.RowKit Go.Maps

set_option maxHeartbeats 2000000 in
set_option maxRecDepth 100000 in
theorem same_from {w0 w : World} (k : Kept w0 w) (r K : Nat) (rs : List AskV) (h : DTr w0 w r rs) (hK : K ≤ 900) (hf : DFine K rs) (A : Path → Int → Nat) (hd : Doc A rs) (o : OpV) (hfs : o.filter.size ≤ 150) (a b : Int) (hv : PlayV A o (.tuple #[.int .i64 a, .int .i64 b])) :
    Calls Tryz.prog 10 #[.pointer (some ⟨r, 0, none⟩), .agg #[.int .i64 o.kind, .string o.filter, .int .i64 o.id, .string o.topic]] w fun e w' => e = .returned (.tuple #[.int .i64 a, .int .i64 b]) ∧ ∃ rs', DTr w0 w' r rs' ∧ DFine (K + 1) rs' ∧ Doc (playA A o) rs' ∧ Kept w0 w' ∧ DBut w w' := by
  obtain ⟨Q, F, I, T⟩ := o
  have ka := kept_alloc w (.cells #[.int .i64 Q, .string F, .int .i64 I, .string T] 31)
  have h1 := Lib.hid (h.kept ka)
  have k1 := k.trans ka
  have KA := Lib.hid ka
  have HF := Lib.hid hf
  have HD := Lib.hid hd
  have HV := Lib.hid hv
  simp only at hfs
  clear h ka hf hd hv
  by_cases h0 : Q = 0
  · subst h0
    have hab := (HV.out.1 rfl).symm
    simp only at hab
    go_enter Tryz.func10, Tryz.ntmps10
    go_wp2_with fail
    have ca := radd_any k1 r K rs h1.out hK HF.out A HD.out F hfs I
    rw [hab] at ca
    refine ca.mono ?_
    rintro e w2 ⟨rfl, rs2, T2, f2, d2, k2, b2⟩
    have HT2 := Lib.hid T2
    have HF2 := Lib.hid f2
    have HD2 := Lib.hid d2
    have HB2 := Lib.hid b2
    clear T2 f2 d2 b2 ca hab
    go_wp2
    go_ret2
    exact ⟨rfl, rs2, HT2.out, HF2.out, HD2.out, k2, KA.out.dbut.trans HB2.out⟩
  · have e0 : (Q == 0) = false := by simpa using h0
    by_cases h1' : Q = 1
    · subst h1'
      have hab := (HV.out.2.1 rfl).symm
      simp only at hab
      go_enter Tryz.func10, Tryz.ntmps10
      go_wp2_with fail
      have ca := rdrop_any k1 r K rs h1.out hK HF.out A HD.out F hfs I
      rw [hab] at ca
      refine ca.mono ?_
      rintro e w2 ⟨rfl, rs2, T2, f2, d2, k2, b2⟩
      have HT2 := Lib.hid T2
      have HF2 := Lib.hid f2
      have HD2 := Lib.hid d2
      have HB2 := Lib.hid b2
      clear T2 f2 d2 b2 ca hab
      go_wp2
      go_ret2
      exact ⟨rfl, rs2, HT2.out, HF2.out, HD2.out, k2, KA.out.dbut.trans HB2.out⟩
    · have e1 : (Q == 1) = false := by simpa using h1'
      by_cases h2' : Q = 2
      · subst h2'
        obtain ⟨L, hL0, hL1, hL2⟩ := HV.out.2.2.1 rfl
        have hg := HD.out.gone I hL1 hL2
        have hL3 : a = (L.length : Int) ∧ b = 0 := by simpa using hL0
        obtain ⟨rfl, rfl⟩ := hL3
        go_enter Tryz.func10, Tryz.ntmps10
        go_wp2_with fail
        have ca := rleave_any k1 r K rs h1.out hK HF.out A HD.out I
        rw [hg] at ca
        refine ca.mono ?_
        rintro e w2 ⟨rfl, rs2, T2, f2, d2, k2, b2⟩
        have HT2 := Lib.hid T2
        have HF2 := Lib.hid f2
        have HD2 := Lib.hid d2
        have HB2 := Lib.hid b2
        clear T2 f2 d2 b2 ca hL1 hL2 hg
        go_wp2
        go_ret2
        exact ⟨rfl, rs2, HT2.out, HF2.out, HD2.out, k2, KA.out.dbut.trans HB2.out⟩
      · have e2 : (Q == 2) = false := by simpa using h2'
        have hL0 := HV.out.2.2.2 h0 h1' h2'
        have hL3 : a = 0 ∧ b = 0 := by simpa using hL0
        obtain ⟨rfl, rfl⟩ := hL3
        clear hL0
        go_enter Tryz.func10, Tryz.ntmps10
        go_wp2
        go_ret2
        refine ⟨rfl, rs, h1.out, HF.out.mono (by omega), ?_, k1, KA.out.dbut⟩
        have e3 : playA A ⟨Q, F, I, T⟩ = A := by unfold playA; rw [if_neg h0, if_neg h1', if_neg h2']
        rw [e3]
        exact HD.out
end Go.Proofs.YtalebnhkidhglaaGreat
