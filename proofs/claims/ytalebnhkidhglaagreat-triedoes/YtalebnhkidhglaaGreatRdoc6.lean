/-
  What turns the document's trie: the walk of its Add.
-/
import Derived.Test.YtalebnhkidhglaaGreatRdoc5
import Derived.BigRegion
namespace Go.Proofs.YtalebnhkidhglaaGreat
open Go.ChangeShapes Go.WideShapes Go.ChangeAt Go.RowKit Go.Maps

theorem box_set {w : World} {r : Nat} {v u : Value} {e : TypeId} (h : w.heap[r]? = some (.cells #[v] e (0, 0))) : (w.setCell ⟨r, 0, none⟩ u).heap[r]? = some (.cells #[u] e (0, 0)) := by
  simp [World.setCell, Array.getElem?_modify, h]
theorem box_frozen {w : World} {r : Nat} {v : Value} {e : TypeId} (h : w.heap[r]? = some (.cells #[v] e (0, 0))) : w.frozen? ⟨r, 0, none⟩ = false := by simp [World.frozen?, h]
theorem but_set (w : World) (r off : Nat) (u : Value) : But (fun i => i = r) w (w.setCell ⟨r, off, none⟩ u) :=
  ⟨rfl, rfl, rfl, by simp [World.setCell], fun i _ hn => Below.heap_setCell _ _ _ _ hn⟩
theorem dbut_trie {w : World} {r : Nat} {c : Array Value} {z : Nat × Nat} (h : w.heap[r]? = some (.cells c 29 z)) (off : Nat) (u : Value) : DBut w (w.setCell ⟨r, off, none⟩ u) :=
  (but_set w r off u).mono fun i _ e => by subst e; exact ⟨c, z, .inr h⟩
theorem OwnA.obj {w : World} {base g n cap : Nat} {rs : List AskV} (h : OwnA w base (.slice (some ⟨g, 0, none⟩) n cap) rs) : (∃ c, w.heap[g]? = some (.cells c 67 (0, 0))) ∧ base ≤ g ∧ n ≤ cap ∧ cap ≤ maxLen := by
  rcases h.2 with ⟨e, _⟩ | ⟨g', cap', cur, e, hb, hg, h1, h2, _⟩
  · cases e
  · cases e
    obtain ⟨_, _, e⟩ := h.form
    cases e
    exact ⟨⟨cur, hg⟩, hb, h1, h2⟩
theorem dbut_ask {w : World} {base g n cap : Nat} {rs : List AskV} (h : OwnA w base (.slice (some ⟨g, 0, none⟩) n cap) rs) (off : Nat) (u : Value) : DBut w (w.setCell ⟨g, off, none⟩ u) :=
  (but_set w g off u).mono fun i _ e => by subst e; obtain ⟨⟨c, hc⟩, _⟩ := h.obj; exact ⟨c, _, .inl hc⟩
theorem dbut_grown {w w' : World} {base : Nat} {v : Value} {rs : List AskV} (h : OwnA w base v rs) (hg : w.grownBy w' v.ownBlock) : DBut w w' :=
  (but_row hg).mono fun i _ e => by
    rcases h.2 with ⟨rfl, _⟩ | ⟨g, cap, cur, rfl, _, hc, _⟩
    · cases e
    · cases e; exact ⟨cur, _, .inl hc⟩
theorem own_grown {w w' w0 : World} {v : Value} {rs : List AskV} (k : Kept w0 w) (h : OwnA w w0.heap.size v rs) (hg : w.grownBy w' v.ownBlock) : Kept w0 w' :=
  kept_grown k hg fun i hi => by
    rcases h.2 with ⟨rfl, _⟩ | ⟨g, cap, cur, rfl, hb, _⟩
    · cases hi
    · cases hi; exact hb
/-- another row of asks is put in -/
theorem DTr.store {w0 w : World} {r : Nat} {v : Value} {a : Option Addr} {n cap : Nat} {rs : List AskV} (hr : w0.heap.size ≤ r) (hb : w.heap[r]? = some (.cells #[v] 29 (0, 0))) (ho : OwnA w w0.heap.size (.slice a n cap) rs) (hn : n = rs.length) :
    DTr w0 (w.setCell ⟨r, 0, none⟩ (.slice a n cap)) r rs := by
  subst hn
  refine ⟨hr, a, cap, box_set hb, row_but ho (but_set w r 0 _) fun i hi e => ?_⟩
  subst e
  rcases ho.2 with ⟨e, _⟩ | ⟨g, cap', cur, e, _, hg, _⟩
  · injection e with e1; subst e1; cases hi
  · injection e with e1; subst e1
    cases hi
    rw [hb] at hg
    cases hg
/-- how often is written over -/
theorem DTr.set {w0 w : World} {r g cap : Nat} {rs : List AskV} (hr : w0.heap.size ≤ r) (hb : w.heap[r]? = some (.cells #[.slice (some ⟨g, 0, none⟩) rs.length cap] 29 (0, 0))) (ho : OwnA w w0.heap.size (.slice (some ⟨g, 0, none⟩) rs.length cap) rs)
    {k : Nat} {a : AskV} (hk : rs[k]? = some a) (c : Nat) : DTr w0 (w.setCell ⟨g, k * 3 + 2, none⟩ (.int .i64 c)) r (rs.set k ⟨a.f, a.id, c⟩) := by
  obtain ⟨⟨cc, hcc⟩, _⟩ := ho.obj
  refine ⟨hr, some ⟨g, 0, none⟩, cap, ?_, ?_⟩
  · rw [List.length_set]
    refine (but_set w g _ _).at hb fun e => ?_
    subst e
    rw [hb] at hcc
    cases hcc
  · rw [List.length_set]
    exact ho.set hk c
theorem doc_set {A : Path → Int → Nat} {rs : List AskV} (hd : Doc A rs) {k : Nat} (hk : k < rs.length) {c : Nat} (hc : 0 < c) : Doc (bump A (Tp.lev rs[k].f) rs[k].id c) (rs.set k ⟨rs[k].f, rs[k].id, c⟩) := by
  obtain ⟨e1, e2⟩ := set_parts rs k hk ⟨rs[k].f, rs[k].id, c⟩
  rw [e2]
  refine Doc.turn (a := rs[k]) ?_ hc
  rw [← e1]
  exact hd
theorem fine_set {K : Nat} {rs : List AskV} (h : DFine K rs) {k : Nat} (hk : k < rs.length) {c K' : Nat} (hK : K ≤ K') (hc : c ≤ K') : DFine K' (rs.set k ⟨rs[k].f, rs[k].id, c⟩) := by
  refine ⟨by rw [List.length_set]; exact Nat.le_trans h.len hK, fun a ha => ?_⟩
  rcases List.mem_or_eq_of_mem_set ha with q | q
  · obtain ⟨h1, h2, h3⟩ := h.ask a q
    exact ⟨h1, h2, Nat.le_trans h3 hK⟩
  · subst q
    obtain ⟨h1, h2, _⟩ := h.ask _ (List.getElem_mem hk)
    exact ⟨h1, h2, hc⟩
theorem DFine.mono {K K' : Nat} {rs : List AskV} (h : DFine K rs) (hK : K ≤ K') : DFine K' rs := ⟨Nat.le_trans h.len hK, fun a ha => let ⟨h1, h2, h3⟩ := h.ask a ha; ⟨h1, h2, Nat.le_trans h3 hK⟩⟩
theorem ask_cell (w : World) (p : ByteArray) (i : Int) : ∀ (j : Nat) (u : Value), (([⟨p.data.toList, i, 0⟩] : List AskV).flatMap AskV.cells)[j]? = some u → (w.alloc (.cells #[.string p, .int .i64 i, .int .i64 0] 67)).cell? ((⟨w.heap.size, 0, none⟩ : Addr).add j) = some u := by
  intro j u hj
  match j, hj with
  | 0, hj => simp [AskV.cells, str] at hj; subst hj; simp [Addr.add]
  | 1, hj => simp [AskV.cells] at hj; subst hj; simp [Addr.add]
  | 2, hj => simp [AskV.cells] at hj; subst hj; simp [Addr.add]

set_option maxHeartbeats 2000000 in
set_option maxRecDepth 100000 in
theorem radd_any {w0 w : World} (k0 : Kept w0 w) (r K : Nat) (rs : List AskV) (h : DTr w0 w r rs) (hK : K ≤ 900) (hf : DFine K rs) (A : Path → Int → Nat) (hd : Doc A rs) (f : ByteArray) (hfs : f.size ≤ 150) (i : Int) :
    Calls Tryz.prog 29 #[.pointer (some ⟨r, 0, none⟩), .string f, .int .i64 i] w fun e w' => e = .returned (addV A f.data.toList i) ∧ ∃ rs', DTr w0 w' r rs' ∧ DFine (K + 1) rs' ∧ Doc (addA A f.data.toList i) rs' ∧ Kept w0 w' ∧ DBut w w' := by
  have H := Lib.hid h
  have HF := Lib.hid hf
  have HD := Lib.hid hd
  clear h hf hd
  go_enter Tryz.func29, Tryz.ntmps29
  go_wp2_with fail
  refine (rfilter_any f _ (by omega)).mono ?_
  rintro e w1 ⟨rfl, k1⟩
  cases hft : Tp.filter f.data.toList with
  | false =>
    have HV : Hid (addV A f.data.toList i = .tuple #[.int .i64 0, .int .i64 1] ∧ addA A f.data.toList i = A) := by
      have : okF f.data.toList i = false := by unfold okF; rw [hft]; rfl
      unfold addV addA
      rw [this]
      exact ⟨rfl, rfl⟩
    clear hft
    go_wp2
    go_ret2
    exact ⟨by rw [HV.out.1]; rfl, rs, H.out.kept k1, HF.out.mono (by omega), by rw [HV.out.2]; exact HD.out, k0.trans k1, k1.dbut⟩
  | true =>
    by_cases hi : i < 0
    · have HV : Hid (addV A f.data.toList i = .tuple #[.int .i64 0, .int .i64 1] ∧ addA A f.data.toList i = A) := by
        have : okF f.data.toList i = false := by unfold okF; rw [decide_eq_false (by omega), Bool.and_false]
        unfold addV addA
        rw [this]
        exact ⟨rfl, rfl⟩
      clear hft
      go_wp2
      go_ret2
      exact ⟨by rw [HV.out.1]; rfl, rs, H.out.kept k1, HF.out.mono (by omega), by rw [HV.out.2]; exact HD.out, k0.trans k1, k1.dbut⟩
    · have HV : Hid (addV A f.data.toList i = .tuple #[.int .i64 (A (Tp.lev f.data.toList) i + 1 : Nat), .int .i64 0] ∧ addA A f.data.toList i = bump A (Tp.lev f.data.toList) i (A (Tp.lev f.data.toList) i + 1)) := by
        have : okF f.data.toList i = true := by unfold okF; rw [hft, decide_eq_true (by omega)]; rfl
        unfold addV addA
        rw [this]
        exact ⟨rfl, rfl⟩
      have HFt := Lib.hid hft
      clear hft
      have H1 := Lib.hid (H.out.kept k1)
      go_wp2_with fail
      refine (rplace_any w1 w0.heap.size r rs H1.out.at_ f i).mono ?_
      rintro e w2 ⟨k2, ⟨k, hk, rfl, e1, e2⟩ | ⟨rfl, hno⟩⟩
      · -- it is there
        have K2 := (k0.trans k1).trans k2
        have D2 := (k1.trans k2).dbut
        have H2 := Lib.hid (H1.out.kept k2)
        have HE := Lib.hid (fun (hno : ∀ a ∈ rs, ¬ (a.f = f.data.toList ∧ a.id = i)) => hno rs[k] (List.getElem_mem hk) ⟨e1, e2⟩)
        clear e1 e2 hk
        go_wp2_with fail
        refine (rplace_any w2 w0.heap.size r rs H2.out.at_ f i).mono ?_
        rintro e w3 ⟨k3, ⟨j, hj, rfl, e3, e4⟩ | ⟨rfl, hno⟩⟩
        · have H3 := H2.out.kept k3
          have K3 := K2.trans k3
          have D3 := D2.trans k3.dbut
          have hn := HD.out.at_ rs[j] (List.getElem_mem hj)
          rw [e3, e4] at hn
          have hnK := (HF.out.ask _ (List.getElem_mem hj)).2.2
          obtain ⟨c, hc⟩ : ∃ c, rs[j].n = c := ⟨_, rfl⟩
          rw [hc] at hn hnK
          have HN := Lib.hid hn
          have HDs := Lib.hid (doc_set HD.out hj (c := c + 1) (by omega))
          rw [e3, e4] at HDs
          have HFs := Lib.hid (fine_set HF.out hj (c := c + 1) (K' := K + 1) (by omega) (by omega))
          rw [e3, e4] at HFs
          have E3 := Lib.hid e3
          have E4 := Lib.hid e4
          clear e3 e4 hn
          obtain ⟨a, cap, hb, ho⟩ := H3.ex
          obtain ⟨g, p, rfl, hcm, hcl, lp, d0, d1, d2⟩ := ho.at hj
          unfold maxLen at hcm
          rw [hc] at d2
          have sr := box_cell hb
          have h1 := DTr.set H3.own hb ho (List.getElem?_eq_getElem hj) (c + 1)
          rw [show ((c + 1 : Nat) : Int) = (c : Nat) + 1 from by omega] at h1
          have HX1 := Lib.hid h1
          have HX2 := Lib.hid (show Kept w0 (w3.setCell ⟨g, j * 3 + 2, none⟩ (.int .i64 ((c : Nat) + 1))) from Below.setCell (p := ⟨g, j * 3 + 2, none⟩) K3 ho.obj.2.1 _)
          have HX3 := Lib.hid (show DBut w (w3.setCell ⟨g, j * 3 + 2, none⟩ (.int .i64 ((c : Nat) + 1))) from DBut.trans D3 (dbut_ask ho _ _))
          have fz : w3.frozen? ⟨g, j * 3 + 2, none⟩ = false := by obtain ⟨⟨cc, hcc⟩, _⟩ := ho.obj; simp [World.frozen?, hcc]
          have s2 : (w3.setCell ⟨g, j * 3 + 2, none⟩ (.int .i64 ((c : Nat) + 1))).cell? ⟨g, j * 3 + 2, none⟩ = some (.int .i64 ((c : Nat) + 1)) := World.cell?_setCell_same _ _ _ d2
          have sr2 : (w3.setCell ⟨g, j * 3 + 2, none⟩ (.int .i64 ((c : Nat) + 1))).cell? ⟨r, 0, none⟩ = some (.slice (some ⟨g, 0, none⟩) (rs).length cap) := by
            rw [World.cell?_setCell_other _ _ _ _ (by
              intro e
              simp only [Addr.mk.injEq] at e
              obtain ⟨e1, _⟩ := e
              obtain ⟨⟨cc, hcc⟩, _⟩ := ho.obj
              rw [e1, hb] at hcc
              cases hcc)]
            exact sr
          clear d0 d1 lp h1 ho hb H3
          go_wp2
          go_region
          all_goals
            go_wp2
            go_ret2
            exact ⟨by rw [HV.out.1, HN.out]; rfl, _, (show DTr w0 _ r (rs.set j ⟨f.data.toList, i, c + 1⟩) from by have := HX1.out; rw [E3.out, E4.out] at this; exact this).kept (Kept.drew (Kept.refl _)), HFs.out, by rw [HV.out.2, HN.out]; exact HDs.out, Kept.drew HX2.out, DBut.trans HX3.out (Kept.drew (Kept.refl _)).dbut⟩
        · exact (HE.out hno).elim
      · -- it is new
        have K2 := (k0.trans k1).trans k2
        have D2 := (k1.trans k2).dbut
        have H2 := H1.out.kept k2
        have HNo := Lib.hid hno
        obtain ⟨a, cap, hb, ho⟩ := H2.ex
        have hown := H2.own
        have hrl := HF.out.len
        have sr := box_cell hb
        have hoa : OwnA (w2.alloc (.cells #[.string f, .int .i64 i, .int .i64 0] 67)) w0.heap.size (.slice a rs.length cap) rs := World.ownsRow.alloc ho _
        have hba : (w2.alloc (.cells #[.string f, .int .i64 i, .int .i64 0] 67)).heap[r]? = some (.cells #[.slice a rs.length cap] 29 (0, 0)) := by rw [Below.heap_alloc _ _ _ (heap_lt hb)]; exact hb
        have ka : Kept w0 (w2.alloc (.cells #[.string f, .int .i64 i, .int .i64 0] 67)) := K2.alloc _
        have Hoa := Lib.hid hoa
        have Hba := Lib.hid hba
        have Hown := Lib.hid hown
        have Hka := Lib.hid ka
        clear hno hoa hba hown ka H2
        go_wp2_with (first | (at_builtin; refine wp_asks Hoa.out [⟨f.data.toList, i, 0⟩] (by simp; omega) Hka.out.size ⟨w2.heap.size, 0, none⟩ 1 1 rfl (ask_cell w2 f i) (rs.length + 1) rfl rfl _ _ rfl rfl rfl ?_))
        rintro a' cap' w4 o4 g4 gg rfl
        have hb4 : w4.heap[r]? = some (.cells #[.slice a rs.length cap] 29 (0, 0)) := by
          rw [g4.block r (heap_lt Hba.out) (fun e => by
            rcases Hoa.out.2 with ⟨e0, _⟩ | ⟨g', cap', cur, e0, _, hg, _⟩
            · rw [e0] at e; cases e
            · rw [e0] at e; cases e
              rw [Hba.out] at hg
              cases hg)]
          exact Hba.out
        have sr4 := box_cell hb4
        have fz4 := box_frozen hb4
        have K4 := own_grown Hka.out Hoa.out g4
        have D4 : DBut w w4 := (D2.trans (Kept.alloc (Kept.refl w2) _).dbut).trans (dbut_grown Hoa.out g4)
        have H5 := Lib.hid (DTr.store Hown.out hb4 o4 (by simp))
        have K5 := Lib.hid (show Kept w0 (w4.setCell ⟨r, 0, none⟩ (.slice (some ⟨gg, 0, none⟩) (rs.length + 1) cap')) from Below.setCell (p := ⟨r, 0, none⟩) K4 Hown.out _)
        have D5 := Lib.hid (DBut.trans D4 (dbut_trie hb4 0 (.slice (some ⟨gg, 0, none⟩) (rs.length + 1) cap')))
        clear sr hb ho o4 g4 hb4 K4 D4
        obtain ⟨rs1, hrs1⟩ : ∃ rs1, rs ++ [⟨f.data.toList, i, 0⟩] = rs1 := ⟨_, rfl⟩
        rw [hrs1] at H5
        go_wp2_with fail
        refine (rplace_any _ w0.heap.size r rs1 H5.out.at_ f i).mono ?_
        rintro e w3 ⟨k3, ⟨j, hj, rfl, e3, e4⟩ | ⟨rfl, hno2⟩⟩
        · have H3 := H5.out.kept k3
          have K3 := K5.out.trans k3
          have D3 := D5.out.trans k3.dbut
          have hr1 : rs1.length = rs.length + 1 := by rw [← hrs1]; simp
          have hc : rs1[j].n = 0 := by
            subst hrs1
            rcases Nat.lt_or_ge j rs.length with q | q
            · rw [List.getElem_append_left q] at e3 e4
              exact absurd ⟨e3, e4⟩ (HNo.out _ (List.getElem_mem q))
            · rw [List.getElem_append_right q]; simp
          have HSet : Hid (∀ (w' : World), DTr w0 w' r (rs1.set j ⟨rs1[j].f, rs1[j].id, 1⟩) → DTr w0 w' r (rs ++ [⟨f.data.toList, i, 1⟩])) := fun w' h => by
            rw [e3, e4] at h
            subst hrs1
            have hjl : j = rs.length := by
              rcases Nat.lt_or_ge j rs.length with q | q
              · rw [List.getElem_append_left q] at e3 e4
                exact absurd ⟨e3, e4⟩ (HNo.out _ (List.getElem_mem q))
              · omega
            subst hjl
            simpa using h
          have HN := Lib.hid (HD.out.no HNo.out)
          have HDs := Lib.hid (HD.out.new HNo.out (c := 1) (by omega))
          have HFs : Hid (DFine (K + 1) (rs ++ [⟨f.data.toList, i, 1⟩])) := ⟨by rw [List.length_append]; simp; omega, fun x hx => by
            rcases List.mem_append.1 hx with q | q
            · obtain ⟨h1, h2, h3⟩ := HF.out.ask x q
              exact ⟨h1, h2, by omega⟩
            · rw [List.mem_singleton] at q
              subst q
              exact ⟨HFt.out, by rw [str_size]; exact hfs, by show 1 ≤ K + 1; omega⟩⟩
          clear e3 e4 sr4 fz4 hrs1 K5 D5
          obtain ⟨a, cap, hb, ho⟩ := H3.ex
          obtain ⟨g, p, rfl, hcm, hcl, lp, d0, d1, d2⟩ := ho.at hj
          unfold maxLen at hcm
          rw [hc] at d2
          have sr := box_cell hb
          have h1 := DTr.set H3.own hb ho (List.getElem?_eq_getElem hj) 1
          have HX1 := Lib.hid h1
          have HX2 := Lib.hid (show Kept w0 (w3.setCell ⟨g, j * 3 + 2, none⟩ (.int .i64 1)) from Below.setCell (p := ⟨g, j * 3 + 2, none⟩) K3 ho.obj.2.1 _)
          have HX3 := Lib.hid (show DBut w (w3.setCell ⟨g, j * 3 + 2, none⟩ (.int .i64 1)) from DBut.trans D3 (dbut_ask ho _ _))
          have fz : w3.frozen? ⟨g, j * 3 + 2, none⟩ = false := by obtain ⟨⟨cc, hcc⟩, _⟩ := ho.obj; simp [World.frozen?, hcc]
          have s2 : (w3.setCell ⟨g, j * 3 + 2, none⟩ (.int .i64 1)).cell? ⟨g, j * 3 + 2, none⟩ = some (.int .i64 1) := World.cell?_setCell_same _ _ _ d2
          have sr2 : (w3.setCell ⟨g, j * 3 + 2, none⟩ (.int .i64 1)).cell? ⟨r, 0, none⟩ = some (.slice (some ⟨g, 0, none⟩) (rs1).length cap) := by
            rw [World.cell?_setCell_other _ _ _ _ (by
              intro e
              simp only [Addr.mk.injEq] at e
              obtain ⟨e1, _⟩ := e
              obtain ⟨⟨cc, hcc⟩, _⟩ := ho.obj
              rw [e1, hb] at hcc
              cases hcc)]
            exact sr
          clear d0 d1 lp h1 ho hb H3 hc
          go_wp2
          go_region
          all_goals
            go_wp2
            go_ret2
            exact ⟨by rw [HV.out.1, HN.out]; rfl, _, (HSet.out _ HX1.out).kept (Kept.drew (Kept.refl _)), HFs.out, by rw [HV.out.2, HN.out]; exact HDs.out, Kept.drew HX2.out, DBut.trans HX3.out (Kept.drew (Kept.refl _)).dbut⟩
        · exact (hno2 ⟨f.data.toList, i, 0⟩ (by rw [← hrs1]; simp) ⟨rfl, rfl⟩).elim
end Go.Proofs.YtalebnhkidhglaaGreat
