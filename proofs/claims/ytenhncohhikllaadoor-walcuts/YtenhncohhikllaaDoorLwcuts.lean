/-
  The walk of the law WalCuts.
-/
import Derived.Test.YtenhncohhikllaaDoorLwagain
import Derived.Test.YtenhncohhikllaaDoorKslicw
import Derived.Test.YtenhncohhikllaaDoorVbits
namespace Go.Proofs.YtenhncohhikllaaDoor
open Go.ChangeShapes Go.WideShapes Go.ChangeAt Go.RowKit

/-- a row of texts alone is written -/
theorem LD.row {w w' : World} {base b d : Nat} {K : Dk.Fl} {v : Value} {ws : List Dk.W} {x : Wg.St} {lv : Value} {sure : Nat} (o : LD w base b d K v ws x lv sure) {base' : Nat} {r : Value} {l : List (List UInt8)} (h : Tx w base' r l) (ap : RApart lv r) (f : But (fun i => r.ownBlock = some i) w w') : LD w' base b d K v ws x lv sure := by
  refine ⟨o.dsk.but f ?_ ?_, o.log.but f ?_ ?_, o.ap⟩
  · intro e
    obtain ⟨_, cur, hg⟩ := h.blk e
    exact type_ne hg o.dsk.blk (by decide)
  · intro i e1 e2
    exact o.dsk.apart h i e1 e2
  · intro e
    obtain ⟨_, cur, hg⟩ := h.blk e
    exact type_ne hg o.log.blk (by decide)
  · intro i e1 e2
    exact ap i e1 e2
theorem Tx.empty (w : World) : Tx (w.alloc (.cells #[] 9)) w.heap.size (.slice (some ⟨w.heap.size, 0, none⟩) 0 0) [] :=
  ⟨rfl, by simp, .inr ⟨w.heap.size, 0, 0, #[], rfl, Nat.le_refl _, Nat.zero_le _, Nat.le_refl _, heap_alloc_new w _, Nat.le_refl _, by simp⟩⟩
/-- a row's beginning -/
theorem Tx.front {w : World} {base : Nat} {g off n cap : Nat} {l : List (List UInt8)} (h : Tx w base (.slice (some ⟨g, off, none⟩) n cap) l) (j : Nat) (hj : j ≤ l.length) : Strs w (.slice (some ⟨g, off, none⟩) (l.take j).length cap) (l.take j) := by
  obtain ⟨h0, h1, h2⟩ := h
  rcases h2 with ⟨e, _⟩ | ⟨g', off', cap', cur, e, h2, h3, h4, hg, h5, h6⟩
  · cases e
  · cases e
    refine ⟨_, _, rfl, by rw [List.length_take]; omega, h3, .inr ⟨g, off, rfl, heap_lt hg, fun i y hy => ?_⟩⟩
    have hi : i < j ∧ l[i]? = some y := by
      rw [List.getElem?_take] at hy
      split at hy
      · exact ⟨by assumption, hy⟩
      · cases hy
    simp [World.cell?, hg, h6 i (str y) (by rw [List.getElem?_map, hi.2]; rfl)]
/-- rows cut off anywhere, and put again -/
theorem Wg.cut_stands {F : Dk.Fl} {l : List (List UInt8)} (h : Wg.Exact F ⟨0, [], l⟩) (m : Nat) : ∃ j, Wg.Stands (fun i => if i = 1 then (F 1).extract 0 m else F i) ⟨0, [], l.take j⟩ := by
  refine ⟨Ck.whole (Wg.rows 0 l) m, ?_, ?_⟩
  · simp only
    rw [if_neg (by decide)]
    exact h.head
  · simp only
    rw [if_pos trivial, h.rows, Wg.ba_take, Wg.ba_list]
    exact Wg.recs_take 0 l m (by decide) h.small

set_option maxHeartbeats 4000000 in
set_option maxRecDepth 100000 in
theorem wcuts_walk (av : Option Addr) (len cap : Nat) (z : Nat → ByteArray) (kk : Int) (w : World) (hl : StrArg w av len cap z) (_k0 : -9223372036854775808 ≤ kk) (_k1 : kk ≤ 9223372036854775807) (hT : Tab w) :
    Calls Tryd.prog 7 #[.slice av len cap, .int .i64 kk] w fun e w' => e = .returned (.bool true) ∧ Kept w w' := by
  obtain ⟨l1, l2, l3, l4⟩ := hl
  unfold maxLen at l2 l3
  have L3 := Lib.hid l3
  have L4 := Lib.hid l4
  have HT := Lib.hid hT
  clear l3 l4 hT
  go_enter Tryd.func7, Tryd.ntmps7
  go_wp2_with fail
  refine (new_disk _).mono ?_
  rintro e w2 ⟨rfl, x2, k2⟩
  obtain ⟨base, hbase⟩ : ∃ base, base = w.heap.size := ⟨_, rfl⟩
  rw [← hbase] at x2 ⊢
  obtain ⟨d, hd⟩ : ∃ d, d = base := ⟨_, rfl⟩
  have x2 : Dsk w2 base d (fun _ => ⟨#[]⟩) (.slice none 0 0) [] := by rw [hd]; exact x2
  rw [show (Value.pointer (some ⟨base, 0, none⟩)) = .pointer (some ⟨d, 0, none⟩) by rw [hd]]
  have HB : Hid (w.heap.size ≤ base) := by show _ ≤ _; omega
  have X2 := Lib.hid x2
  have K2 := Lib.hid k2
  clear x2 k2 hd
  have HBS : Hid (base = w.heap.size) := Lib.hid hbase
  clear hbase
  go_wp2_with fail
  refine (run_open (k := 0) w2 X2.out (by decide) HT.out HB.out K2.out stands_new (Nat.le_refl _) (by decide) (Nat.le_refl _) (Nat.zero_le _) (by simp)).mono ?_
  rintro e w3 ⟨b, lv, rfl, x3, _, _, f⟩
  have X3 := Lib.hid x3
  have K3 := Lib.hid (X2.out.still HB.out K2.out f)
  generalize Wg.opened (nowF (fun _ => ⟨#[]⟩) []) = K at X3
  clear x3 f X2 K2
  have X4 := Lib.hid (X3.out.kept ((Kept.refl w3).alloc (.cells #[] 9)))
  have K4 := Lib.hid (K3.out.alloc (.cells #[] 9))
  have R4 : Hid (Tx (w3.alloc (.cells #[] 9)) base (.slice (some ⟨w3.heap.size, 0, none⟩) 0 0) []) := Lib.hid ((Tx.empty w3).mono (by rw [HBS.out]; exact K3.out.size))
  have A4 : Hid (RApart lv (.slice (some ⟨w3.heap.size, 0, none⟩) 0 0)) := Lib.hid fun i e1 e2 => by
    obtain ⟨_, cur, hg⟩ := X3.out.ld.log.row.blk e1
    have := heap_lt hg
    have e3 : w3.heap.size = i := by simpa [Value.ownBlock] using e2
    omega
  clear X3 K3
  go_wp2
  go_loopw [8, 9, 10] (fun r i _ wr => ∃ (k : Nat) (a : Option Addr) (n c : Nat) (l : List (List UInt8)), k ≤ len ∧ k ≤ 20 ∧ i = .int .i64 k ∧ r = .slice a n c ∧ a ≠ none ∧ Hid (∃ v ws lv sure, Run wr base b d K v ws ⟨0, [], l⟩ lv sure k ∧ RApart lv (.slice a n c)) ∧ Hid (Tx wr base (.slice a n c) l) ∧ Hid (Kept w wr)) (fun _ i _ _ => len - (intOf i).toNat)
  case atStart => exact ⟨0, _, 0, 0, [], Nat.zero_le _, Nat.zero_le _, rfl, rfl, by simp, Lib.hid ⟨_, _, _, _, X4.out, A4.out⟩, R4, K4⟩
  case round =>
    obtain ⟨k, a, n, c, l, hk, hk20, rfl, rfl, han, hx, hrow, kr⟩ := hrel
    rename_i wr
    obtain ⟨v, ws, lv', sure, hx, hap⟩ := hx.out
    have X := Lib.hid hx
    have AP := Lib.hid hap
    obtain ⟨a', c', e⟩ := hrow.out.form
    cases e
    clear hx hap
    have hll : l.length ≤ 20 := Nat.le_trans X.out.nl hk20
    by_cases hlt : k < len ∧ k < 20
    · obtain ⟨hlt1, hlt2⟩ := hlt
      obtain ⟨B, off, rfl, hb, hc⟩ := L4.out.resolve_left (by omega)
      have hck := (Below.cell kr.out (p := ⟨B, off + k, none⟩) hb).trans (hc k hlt1)
      have hzk := L3.out k
      clear hc
      go_wp2
      go_quiet (fail)
      have kq : Kept wr (wr.drewN nq) := below_drewN (Kept.refl wr) nq
      generalize wr.drewN nq = wq at kq ⊢
      have XQ := Lib.hid (X.out.kept kq)
      have RQ := Lib.hid (hrow.out.kept kq)
      have KQ := Lib.hid (kr.out.trans kq)
      have hS := cut60 (z k)
      generalize (z k).extract 0 (min ((z k).size : Int) 60).toNat = S at hS ⊢
      have R5 : Hid (OffV 9 1 (wq.alloc (.cells #[.string S] 9)) base (.slice a l.length c) l.length (l.map str)) := Lib.hid (OffV.kept RQ.out ((Kept.refl wq).alloc _))
      have HB5 : Hid (base ≤ (wq.alloc (.cells #[.string S] 9)).heap.size) := Lib.hid (by rw [HBS.out]; exact (KQ.out.alloc _).size)
      have hl1 : l.length + 1 ≤ 1000001 := by omega
      clear hck hzk kq X kr hrow
      go_wp2_with (at_builtin; refine wp_rapp rowS (base := base) (v := .slice a l.length c) (n := l.length) (m := 1) (xs := l.map str) (ys := [.string S]) R5.out (Src.one wq [.string S] 9 rfl (one_one S)) hl1 HB5.out rfl _ _ rfl rfl rfl ?_)
      intro v6 w6 o6 g6 b6 n6
      have X5 := XQ.out.kept ((Kept.refl wq).alloc (.cells #[.string S] 9))
      have X6 := Lib.hid (X5.to (X5.ld.row (l := l) R5.out AP.out b6))
      have K6 : Hid (Kept w w6) := Lib.hid (But.after (KQ.out.alloc _) b6 fun i hi e => by have := (R5.out.blk e).1; have := HB.out; omega)
      have R6 : Hid (Tx w6 base v6 (l ++ [S.data.toList])) := Lib.hid (by
        show OffV _ _ _ _ _ (l ++ [S.data.toList]).length ((l ++ [S.data.toList]).map str)
        rw [List.length_append, List.map_append]
        exact o6)
      have A6 : Hid (RApart lv' v6) := Lib.hid (AP.out.symm.went g6 X5.ld.log.row).symm
      obtain ⟨a6, c6, rfl⟩ := o6.form
      have ha6 : a6 ≠ none := by
        intro e
        subst e
        rcases R6.out.2.2 with ⟨_, h⟩ | ⟨g, off, cap', cur, e, _⟩
        · simp at h
        · cases e
      clear o6 g6 b6 n6 X5 R5 HB5 RQ XQ KQ
      go_wp2_with fail
      refine (run_app S w6 X6.out hS (by omega) (HT.out.kept K6.out)).mono ?_
      rintro e w7 ⟨rfl, v7, lv7, x7, _, u7, f⟩
      have X7 := Lib.hid x7
      have K7 := Lib.hid (X6.out.ld.still HB.out K6.out f)
      have R7 := Lib.hid (X6.out.ld.tx f R6.out A6.out)
      have A7 : Hid (RApart lv7 (.slice a6 (l.length + 1) c6)) := Lib.hid (A6.out.went u7 R6.out)
      clear x7 f u7 X6 K6 R6 A6
      go_wp2
      go_roundw
      case rel => exact ⟨k + 1, a6, l.length + 1, c6, l ++ [S.data.toList], by omega, by omega, by go_num, rfl, ha6, Lib.hid ⟨v7, _, lv7, _, X7.out, A7.out⟩, R7, K7⟩
      case measure => simp [intOf]; omega
    · have hx : (k : Int) < len ∧ ¬ (k : Int) < 20 ∨ ¬ (k : Int) < len := by omega
      clear hlt
      have hw : ws.length ≤ 40 := by have := X.out.nw; omega
      obtain ⟨F, hF⟩ : ∃ F, F = nowF K ws 1 := ⟨_, rfl⟩
      have hFs : F.size ≤ 1640 := by rw [hF]; have := X.out.file; omega
      have hFe : F = Wg.ba (Wg.text 0 l) := by rw [hF]; exact X.out.ex.rows
      have HF := Lib.hid hF
      have HFE := Lib.hid hFe
      have CRD := Lib.hid (read_is 1 F wr X.out.ld.dsk (by rw [if_pos (by decide), hF]; rfl))
      obtain ⟨M, hM⟩ : ∃ M : Nat, bits BinOp.and IntKind.i64 kk 65535 = (M : Int) := ⟨_, (Int.toNat_of_nonneg (and_mask kk 65535 (by decide)).1).symm⟩
      have r1 : IntKind.i64.wrap ((F.size : Int) + 1) = (F.size : Int) + 1 := by rw [IntKind.wrap_i64]; omega
      have r2 : ¬ ((F.size : Int) + 1) = 0 := by omega
      have htm : (M : Int).tmod ((F.size : Int) + 1) = ((M % (F.size + 1) : Nat) : Int) := by
        rw [Int.tmod_eq_emod_of_nonneg (by omega), Int.natCast_emod]
        simp
      obtain ⟨m, hm⟩ : ∃ m : Nat, m = M % (F.size + 1) := ⟨_, rfl⟩
      have hmF : m ≤ F.size := by
        have h2 := Nat.mod_lt M (show 0 < F.size + 1 by omega)
        omega
      rw [← hm, ← hM] at htm
      have q0 : 0 ≤ (bits BinOp.and IntKind.i64 kk 65535).tmod ((F.size : Int) + 1) := by rw [htm]; omega
      have q1 : (bits BinOp.and IntKind.i64 kk 65535).tmod ((F.size : Int) + 1) ≤ F.size := by rw [htm]; omega
      have HTM := Lib.hid htm
      obtain ⟨j, hj⟩ := Wg.cut_stands X.out.ex m
      obtain ⟨lj, hlj⟩ : ∃ lj, lj = l.take j := ⟨_, rfl⟩
      rw [← hlj] at hj
      have hjl : lj.length ≤ l.length := by rw [hlj, List.length_take]; omega
      have htx : (Wg.text 0 lj).length ≤ F.size := by rw [hFe, Wg.ba_size, hlj]; exact Wg.text_take 0 l j
      have hjs : ∀ y ∈ lj, y.length ≤ 60 := fun y hy => X.out.sm y (by rw [hlj] at hy; exact List.mem_of_mem_take hy)
      obtain ⟨g, go, rfl⟩ : ∃ g go, a = some ⟨g, go, none⟩ := by
        rcases hrow.out.2.2 with ⟨e, _⟩ | ⟨g, go, cap', cur, e, _⟩
        · injection e with e1 _ _
          exact absurd e1 han
        · injection e with e1 _ _
          exact ⟨g, go, e1⟩
      have FR : Hid (∀ w', Tx w' base (.slice (some ⟨g, go, none⟩) l.length c) l → Strs w' (.slice (some ⟨g, go, none⟩) lj.length c) lj) := Lib.hid fun w' h => by
        rw [hlj]
        by_cases hjj : j ≤ l.length
        · exact h.front j hjj
        · rw [List.take_of_length_le (by omega)]
          exact h.strs
      have hlc : l.length ≤ c ∧ c ≤ 9223372036854775807 := by
        rcases hrow.out.2.2 with ⟨e, _⟩ | ⟨g, go, cap', cur, e, h2, h3, _⟩
        · injection e with e1 _ _
          cases e1
        · injection e with _ _ e3
          subst e3
          unfold maxLen at h3
          exact ⟨h2, by omega⟩
      have HJ : Hid (Wg.Stands (nowF K (ws ++ [⟨1, F.extract 0 m, true⟩])) ⟨0, [], lj⟩) := Lib.hid (by
        have e : nowF K (ws ++ [⟨1, F.extract 0 m, true⟩]) = fun i => if i = 1 then (nowF K ws 1).extract 0 m else nowF K ws i := by
          rw [nowF, Dk.now_snoc, Dk.put_all, hF]
          funext i
          simp only [if_true]
        rw [e]
        exact hj)
      clear hm hM hj hlj htm
      clear hF hFe
      rcases hx with ⟨h1, h2⟩ | h1
      all_goals
        go_wp2_with fail
        refine CRD.out.mono ?_
        rintro e w5 ⟨rfl, k5⟩
        have X5 := Lib.hid (X.out.kept k5)
        have K5 := Lib.hid (kr.out.trans k5)
        have R5 := Lib.hid (hrow.out.kept k5)
        clear k5 X kr hrow
        go_wp2_with fail
        rw [HTM.out, Int.toNat_natCast]
        have hTs : (F.extract 0 m).size ≤ 1640 := by rw [ByteArray.size_extract]; omega
        generalize F.extract 0 m = T at HJ hTs ⊢
        refine (replace_is 1 T 0 (ws ++ [⟨1, T, true⟩]) w5 X5.out.ld.dsk (by omega) (by unfold maxLen; omega) (by unfold Dk.ansR; rw [if_pos (by decide), if_pos (by omega)]) (by rw [if_pos rfl, more_whole]; rfl)).mono ?_
        rintro e w6 ⟨rfl, v6, d6, t6, f⟩
        have D6 := Lib.hid d6
        have K6 := Lib.hid (X5.out.ld.dsk.still HB.out K5.out f)
        have R6 := Lib.hid (X5.out.ld.dsk.tx f R5.out)
        clear d6 t6 f X5 K5 R5 q0 q1
        go_wp2_with fail
        refine (run_open (k := 20) w6 D6.out (by rw [List.length_append, List.length_singleton]; omega) HT.out HB.out K6.out HJ.out (Nat.zero_le _) (by decide) (by show lj.length ≤ 20; omega) (Nat.zero_le _) hjs).mono ?_
        rintro e w7 ⟨bm, lvm, rfl, m7, _, _, f⟩
        have M7 := Lib.hid m7
        have K7 := Lib.hid (D6.out.still HB.out K6.out f)
        have R7 := Lib.hid (D6.out.tx f R6.out)
        clear m7 f D6 K6 R6 HJ
        go_wp2_with fail
        refine (records_any w7 M7.out.ld.log).mono ?_
        rintro e w8 ⟨rv, rfl, r8, k8⟩
        obtain ⟨a8, c8, rfl⟩ := r8.form
        have hgt : ¬ (l.length : Int) < lj.length := by omega
        have hj0 : (0 : Int) ≤ lj.length := by omega
        have hj1 : (lj.length : Int) ≤ c := by omega
        have M8 := Lib.hid (M7.out.kept k8)
        have K8 := Lib.hid (K7.out.trans k8)
        have R8 := Lib.hid (R7.out.kept k8)
        have Q8 : Hid (Tx w8 w7.heap.size (.slice a8 lj.length c8) lj) := Lib.hid r8
        clear r8 k8 M7 K7 R7
        go_wp2_with fail
        refine (same_any _ _ lj lj _ Q8.out.strs (FR.out _ R8.out)).mono ?_
        rintro e w9 ⟨rfl, k9⟩
        rw [show (lj == lj) = true by simp]
        have M9 := Lib.hid (M8.out.kept k9)
        have K9 := Lib.hid (K8.out.trans k9)
        have Q9 := Lib.hid (Q8.out.kept k9)
        clear k9 M8 K8 R8 Q8
        go_wp2_with fail
        refine (run_open (k := 20) w9 M9.out.ld.dsk (by decide) HT.out HB.out K9.out M9.out.ex.stands (Nat.zero_le _) (by decide) (by show lj.length ≤ 20; omega) (Nat.zero_le _) hjs).mono ?_
        rintro e w10 ⟨bo, lvo, rfl, p10, _, _, f⟩
        have P10 := Lib.hid p10
        have K10 := Lib.hid (M9.out.ld.dsk.still HB.out K9.out f)
        have Q10 := Lib.hid (M9.out.ld.dsk.tx f Q9.out)
        clear p10 f M9 K9 Q9
        go_wp2_with fail
        refine (records_any w10 P10.out.ld.log).mono ?_
        rintro e w11 ⟨rv2, rfl, r11, k11⟩
        have S11 : Hid (Strs w11 rv2 lj) := Lib.hid (Tx.strs r11)
        have P11 := Lib.hid (P10.out.kept k11)
        have K11 := Lib.hid (K10.out.trans k11)
        have Q11 := Lib.hid (Q10.out.kept k11)
        clear r11 k11 P10 K10 Q10
        go_wp2_with fail
        refine (same_any _ _ lj lj _ S11.out Q11.out.strs).mono ?_
        rintro e w12 ⟨rfl, k12⟩
        rw [show (lj == lj) = true by simp]
        have P12 := Lib.hid (P11.out.kept k12)
        have K12 := Lib.hid (K11.out.trans k12)
        clear k12 P11 K11 Q11 S11
        have hG : (Wg.ba (Wg.text 0 lj)).size ≤ F.size := by rw [Wg.ba_size]; exact htx
        go_wp2_with fail
        refine (read_is 1 (Wg.ba (Wg.text 0 lj)) w12 P12.out.ld.dsk (by rw [if_pos (by decide)]; exact P12.out.ex.rows)).mono ?_
        rintro e w13 ⟨rfl, k13⟩
        generalize Wg.ba (Wg.text 0 lj) = G at hG ⊢
        have K13 := Lib.hid (K12.out.trans k13)
        clear k13 P12 K12
        go_wp2_with fail
        refine (fix_any w13 (HT.out.kept K13.out)).mono ?_
        rintro e w14 ⟨rfl, k14⟩
        go_wp2
        go_ret
        exact ⟨rfl, K13.out.trans k14⟩
end Go.Proofs.YtenhncohhikllaaDoor
