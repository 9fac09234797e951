/-
  The walk of the law WalRecovers.
-/
import Derived.Test.YtenhncohhikllaaDoorWhist
import Derived.Deep.RegionHeld3
namespace Go.Proofs.YtenhncohhikllaaDoor
open Go.ChangeShapes Go.WideShapes Go.ChangeAt Go.RowKit

theorem OffV.one (w : World) (et : TypeId) (y : Value) (h1 : y.oneCell' = true) : OffV et 1 (w.alloc (.cells #[y] et)) w.heap.size (.slice (some ⟨w.heap.size, 0, none⟩) 1 1) 1 [y] :=
  ⟨rfl, by simp [h1], .inr ⟨w.heap.size, 0, 1, #[y], rfl, Nat.le_refl _, by decide, Nat.le_refl _, heap_alloc_new w _, by simp, fun i x hx => by simpa using hx⟩⟩
/-- the law's rows as they are laid down -/
theorem Hist.make {wa wc : World} {base b d : Nat} {K : Dk.Fl} {v : Value} {ws : List Dk.W} {x : Wg.St} {lv : Value} {sure : Nat} (o : LD wa base b d K v ws x lv sure) (s : List UInt8) (p : ByteArray) (hp : str s = .string p) (val : Value) (l : List (List UInt8))
    (k : Kept (wa.alloc (.cells #[.string p] 9)) wc) (hval : Tx wc (wa.heap.size + 1) val l) :
    Hist ((wc.alloc (.cells #[val] 49)).alloc (.cells #[.int .i64 0] 3)) base lv (.slice (some ⟨wa.heap.size, 0, none⟩) 1 1) (.slice (some ⟨wc.heap.size, 0, none⟩) 1 1) (.slice (some ⟨wc.heap.size + 1, 0, none⟩) 1 1) [s] [l] [0] := by
  have hB : base ≤ wa.heap.size := by have := o.log.low; have := heap_lt o.log.blk; omega
  have hs := k.size
  rw [World.size_alloc] at hs
  have k1 : Kept wc ((wc.alloc (.cells #[val] 49)).alloc (.cells #[.int .i64 0] 3)) := ((Kept.refl wc).alloc _).alloc _
  have hv1 : val.oneCell' = true := by
    obtain ⟨a, c, e⟩ := hval.form
    rw [e]
    rfl
  have h1 : OffV 9 1 (wa.alloc (.cells #[.string p] 9)) wa.heap.size (.slice (some ⟨wa.heap.size, 0, none⟩) 1 1) 1 [.string p] := OffV.one wa _ _ rfl
  refine ⟨?_, fun i e1 e2 => ?_, ⟨[val], ?_, fun i v' l' e1 e2 => ?_⟩, ?_⟩
  · show OffV _ _ _ _ _ 1 [str s]
    rw [hp]
    exact (OffV.kept h1 (k.trans k1)).mono hB
  · obtain ⟨_, cur, hg⟩ := o.log.row.blk e1
    have := heap_lt hg
    have e3 : wa.heap.size = i := by simpa [Value.ownBlock] using e2
    omega
  · exact (OffV.kept (OffV.one wc 49 val hv1) ((Kept.refl _).alloc _)).mono (by omega)
  · have hi : i = 0 := by
      have := (List.getElem?_eq_some_iff.1 e1).1
      simp at this
      exact this
    subst hi
    cases e1
    cases e2
    refine ⟨(hval.kept k1).mono (by omega), fun i e1 e2 => ?_, fun i e1 e2 => ?_⟩
    · obtain ⟨_, cur, hg⟩ := o.log.row.blk e1
      have := heap_lt hg
      have := (hval.blk e2).1
      omega
    · have e3 : wa.heap.size = i := by simpa [Value.ownBlock] using e1
      have := (hval.blk e2).1
      omega
  · have := OffV.one (wc.alloc (.cells #[val] 49)) 3 (.int .i64 0) rfl
    rw [World.size_alloc] at this
    exact this.mono (by omega)

/-- what the law's loop keeps -/
def RecI (w1 wr : World) (base b d : Nat) (sv rv uv : Value) (k : Nat) : Prop :=
  ∃ K v x0 ps lv sure m, Run wr base b d K v (Wg.allw x0 ps) (Wg.fin x0 ps) lv sure k ∧ Wg.Exact K x0 ∧ Wg.Ok x0 m ∧ m + ps.length ≤ k ∧ (∀ a ∈ ps, Wg.least a) ∧ Hist wr base lv sv rv uv (Wg.sts x0 ps) (Wg.rws x0 ps) (0 :: Wg.ks 0 x0 ps) ∧ Kept w1 wr
theorem Run.ok {w : World} {base b d : Nat} {K : Dk.Fl} {v : Value} {ws : List Dk.W} {x : Wg.St} {lv : Value} {sure k : Nat} (h : Run w base b d K v ws x lv sure k) : Wg.Ok x k := ⟨h.nr, h.nl, h.st, h.sm⟩
theorem total_app (x : Wg.St) (s : List UInt8) : Dk.total (Wg.writes x (.app s)) = Wg.key x (.app s) := by
  simp [Wg.writes, Dk.total, Dk.units, Wg.key, Wg.ba_size]
theorem total_chk (x : Wg.St) (s : List UInt8) : Dk.total (Wg.writes x (.chk s)) = 2 := rfl

set_option maxHeartbeats 8000000 in
set_option maxRecDepth 100000 in
theorem wrec_walk (av : Option Addr) (len cap : Nat) (z : Nat → OpV) (nn : Int) (w : World) (hz : OpArg w av len cap z) (_n0 : -9223372036854775808 ≤ nn) (_n1 : nn ≤ 9223372036854775807) (hT : Tab w) :
    Calls Tryd.prog 5 #[.slice av len cap, .int .i64 nn] w fun e w' => e = .returned (.bool true) ∧ Kept w w' := by
  go_enter Tryd.func5, Tryd.ntmps5
  go_wp2_with fail
  refine (law_cut av len cap z w hz).mono ?_
  rintro e w1 ⟨a, c, os, rfl, ho, hn, hos, k1⟩
  have HO := Lib.hid ho
  have KW := Lib.hid k1
  have HT := Lib.hid (hT.kept k1)
  have HOS := Lib.hid hos
  clear ho k1 hT hos hz
  go_wp2_with fail
  refine (new_disk _).mono ?_
  rintro e w2 ⟨rfl, x2, k2⟩
  obtain ⟨base, hbase⟩ : ∃ base, base = w1.heap.size := ⟨_, rfl⟩
  rw [← hbase] at x2 ⊢
  obtain ⟨d, hd⟩ : ∃ d, d = base := ⟨_, rfl⟩
  have x2 : Dsk w2 base d (fun _ => ⟨#[]⟩) (.slice none 0 0) [] := by rw [hd]; exact x2
  rw [show (Value.pointer (some ⟨base, 0, none⟩)) = .pointer (some ⟨d, 0, none⟩) by rw [hd]]
  have HB : Hid (w1.heap.size ≤ base) := by show _ ≤ _; omega
  have X2 := Lib.hid x2
  have K2 := Lib.hid k2
  clear x2 k2 hd hbase
  go_wp2_with fail
  refine (run_open (k := 0) w2 X2.out (by decide) HT.out HB.out K2.out stands_new (Nat.le_refl _) (by decide) (Nat.le_refl _) (Nat.zero_le _) (by simp)).mono ?_
  rintro e w3 ⟨b, lv, rfl, x3, _, _, f⟩
  have X3 := Lib.hid x3
  have K3 := Lib.hid (X2.out.still HB.out K2.out f)
  generalize Wg.opened (nowF (fun _ => ⟨#[]⟩) []) = K at X3
  clear x3 f X2 K2
  obtain ⟨n, hnn⟩ : ∃ n, n = os.length := ⟨_, rfl⟩
  rw [← hnn] at hn HO ⊢
  have HN := Lib.hid hnn
  clear hnn
  have q3 : Kept w3 ((((w3.alloc (.cells #[.string ⟨#[]⟩] 9)).alloc (.cells #[] 9)).alloc (.cells #[.slice (some ⟨w3.heap.size + 1, 0, none⟩) 0 0] 49)).alloc (.cells #[.int .i64 0] 3)) := ((((Kept.refl w3).alloc _).alloc _).alloc _).alloc _
  have h3 : Hist ((((w3.alloc (.cells #[.string ⟨#[]⟩] 9)).alloc (.cells #[] 9)).alloc (.cells #[.slice (some ⟨w3.heap.size + 1, 0, none⟩) 0 0] 49)).alloc (.cells #[.int .i64 0] 3)) base lv (.slice (some ⟨w3.heap.size, 0, none⟩) 1 1) (.slice (some ⟨w3.heap.size + 1 + 1, 0, none⟩) 1 1) (.slice (some ⟨w3.heap.size + 1 + 1 + 1, 0, none⟩) 1 1) [[]] [[]] [0] := by
    have ht := Tx.empty (w3.alloc (.cells #[.string ⟨#[]⟩] 9))
    rw [World.size_alloc] at ht
    have := Hist.make X3.out.ld [] ⟨#[]⟩ rfl (.slice (some ⟨w3.heap.size + 1, 0, none⟩) 0 0) [] ((Kept.refl _).alloc (.cells #[] 9)) ht
    rw [World.size_alloc, World.size_alloc] at this
    exact this
  have I3 : Hid (RecI w1 ((((w3.alloc (.cells #[.string ⟨#[]⟩] 9)).alloc (.cells #[] 9)).alloc (.cells #[.slice (some ⟨w3.heap.size + 1, 0, none⟩) 0 0] 49)).alloc (.cells #[.int .i64 0] 3)) base b d (.slice (some ⟨w3.heap.size, 0, none⟩) 1 1) (.slice (some ⟨w3.heap.size + 1 + 1, 0, none⟩) 1 1) (.slice (some ⟨w3.heap.size + 1 + 1 + 1, 0, none⟩) 1 1) 0) :=
    Lib.hid ⟨K, _, ⟨0, [], []⟩, [], lv, _, 0, X3.out.kept q3, X3.out.ex, X3.out.ok, Nat.le_refl _, (fun a ha => by cases ha), h3, K3.out.trans q3⟩
  clear X3 K3 q3 h3
  go_wp2
  go_loopw [9, 10, 11, 12] (fun sv rv uv iv wr => ∃ k : Nat, k ≤ n ∧ iv = .int .i64 k ∧ Hid (RecI w1 wr base b d sv rv uv k)) (fun _ _ _ iv _ => n - (intOf iv).toNat)
  case atStart => exact ⟨0, Nat.zero_le _, rfl, I3⟩
  case round =>
    obtain ⟨k, hk, rfl, hI⟩ := hrel
    rename_i wr
    obtain ⟨K, v, x0, ps, lv', sure, m, hx, hex, hok, hm, hps, hh, kr⟩ := hI.out
    have X := Lib.hid hx
    have EX := Lib.hid hex
    have OK := Lib.hid hok
    have PS := Lib.hid hps
    have H := Lib.hid hh
    have KR := Lib.hid kr
    clear hx hex hok hps hh kr hI
    obtain ⟨a1, c1, rfl⟩ := H.out.sts.form
    obtain ⟨a3, c3, rfl⟩ := H.out.uns.form
    obtain ⟨vals0, o0, _⟩ := H.out.rows
    obtain ⟨a2, c2, rfl⟩ := o0.form
    clear o0
    have hpl : ps.length ≤ 40 := by omega
    have l1 := Wg.sts_len ps x0
    have l2 := Wg.rws_len ps x0
    have l3 : (0 :: Wg.ks 0 x0 ps).length = ps.length + 1 := by rw [List.length_cons, Wg.ks_len]
    rw [l1, l2, l3] at H ⊢
    by_cases hlt : k < n
    · have hkl : k < os.length := by rw [← HN.out]; exact hlt
      obtain ⟨q1, q2, g, rfl, e0, e1, _⟩ := HO.out.at KR.out hkl
      have hsz := (HOS.out _ (List.getElem_mem hkl)).1
      unfold maxLen at q2
      generalize os[k] = o at e0 e1 hsz
      obtain ⟨kd, s, mm⟩ := o
      simp only at e0 e1 hsz
      have hsm := X.out.ld.dsk.small
      by_cases hk0 : kd = 0
      · subst hk0
        have k0 : ((0 : Int) == 0) = true := rfl
        have hg := World.block_lt_of_cell? wr _ e1
        go_wp2_with fail
        refine (units_is (Dk.total (Wg.allw x0 ps) : Int) wr X.out.ld.dsk rfl).mono ?_
        rintro e w4 ⟨rfl, k4⟩
        have X4 := Lib.hid (X.out.kept k4)
        have H4 := Lib.hid (H.out.kept k4)
        have K4 := Lib.hid (KR.out.trans k4)
        have e1' := (Below.cell k4 (p := ⟨g, k * 3 + 1, none⟩) hg).trans e1
        clear k4 X H KR
        go_wp2_with fail
        refine (run_app s w4 X4.out hsz (by omega) (HT.out.kept K4.out)).mono ?_
        rintro e w5 ⟨rfl, v5, lv5, x5, _, u5, f⟩
        rw [← Wg.allw_snoc, ← Wg.fin_snoc] at x5
        obtain ⟨qs, hqs⟩ : ∃ qs, qs = ps ++ [.app s.data.toList] := ⟨_, rfl⟩
        rw [← hqs] at x5
        have X5 := Lib.hid x5
        have H5 := Lib.hid (H4.out.log X4.out.ld f u5)
        have K5 := Lib.hid (X4.out.ld.still HB.out K4.out f)
        have HTT : Dk.total (Wg.allw x0 qs) = Dk.total (Wg.allw x0 ps) + Wg.key (Wg.fin x0 ps) (.app s.data.toList) := by rw [hqs, Wg.allw_snoc, Dk.total_append, total_app]
        have hkp := Wg.key_pos (Wg.fin x0 ps) (.app s.data.toList)
        have hsm5 := x5.ld.dsk.small
        have hq1 : Hid (Wg.sts x0 qs = Wg.sts x0 ps ++ [(Wg.fin x0 qs).st]) := Lib.hid (by rw [hqs, Wg.sts_snoc])
        have hq2 : Hid (Wg.rws x0 qs = Wg.rws x0 ps ++ [(Wg.fin x0 qs).l]) := Lib.hid (by rw [hqs, Wg.rws_snoc])
        have hq3 : Hid (0 :: Wg.ks 0 x0 qs = (0 :: Wg.ks 0 x0 ps) ++ [Dk.total (Wg.allw x0 ps) + Wg.key (Wg.fin x0 ps) (.app s.data.toList)]) := Lib.hid (by rw [hqs, Wg.ks_snoc, Nat.zero_add]; rfl)
        have hq4 : Hid (∀ a ∈ qs, Wg.least a) := Lib.hid fun a ha => by
          rw [hqs] at ha
          rcases List.mem_append.1 ha with ha | ha
          · exact PS.out a ha
          · rw [List.mem_singleton.1 ha]; show s.data.toList.length ≤ 60; rw [size_len]; exact hsz
        have hq5 : qs.length = ps.length + 1 := by rw [hqs, List.length_append, List.length_singleton]
        have hky : Wg.key (Wg.fin x0 ps) (.app s.data.toList) = Wg.key (Wg.fin x0 ps) (.app s.data.toList) := rfl
        have hts : Hid (Dk.total (Wg.allw x0 qs) = Dk.total (Wg.allw x0 qs)) := Lib.hid rfl
        generalize Dk.total (Wg.allw x0 ps) = T0 at *
        obtain ⟨T1, hT1⟩ : ∃ T1, Dk.total (Wg.allw x0 qs) = T1 := ⟨_, rfl⟩
        rw [hT1] at HTT hsm5
        have HT1 := Lib.hid hT1
        have hUV : Hid (T0 + Wg.key (Wg.fin x0 ps) (.app s.data.toList) = T1) := Lib.hid (by omega)
        have HTN : Hid (T1 = T0 + Wg.key (Wg.fin x0 ps) (.app s.data.toList)) := Lib.hid HTT
        clear HTT
        clear x5 f u5 X4 H4 K4 hqs hT1 hts hky PS e0 e1 e1' hg
        go_wp2_with fail
        refine (units_is (T1 : Int) w5 X5.out.ld.dsk (by rw [HT1.out])).mono ?_
        rintro e w6 ⟨rfl, k6⟩
        have X6 := Lib.hid (X5.out.kept k6)
        have H6 := Lib.hid (H5.out.kept k6)
        have K6 := Lib.hid (K5.out.trans k6)
        clear k6 X5 H5 K5
        have hle : ¬ (T1 : Int) ≤ (T0 : Int) := by have := HTN.out; omega
        obtain ⟨P, hP, _, _⟩ := name_str (Wg.fin x0 qs).st
        have HP := Lib.hid hP
        clear hP
        go_wp2_with fail
        refine (state_any w6 X6.out.ld.log).mono ?_
        rintro e w7 ⟨rfl, k7⟩
        rw [HP.out]
        have q7 := k7.trans ((Kept.refl w7).alloc (.cells #[.string P] 9))
        have X7 := Lib.hid (X6.out.kept q7)
        have H7 := Lib.hid (H6.out.kept q7)
        have K7 := Lib.hid (K6.out.trans q7)
        have s7 := H7.out.sts
        unfold Tx at s7
        rw [l1] at s7
        have S7 := Lib.hid s7
        have hB7 : base ≤ (w7.alloc (.cells #[.string P] 9)).heap.size := by have := X7.out.ld.log.low; have := heap_lt X7.out.ld.log.blk; omega
        have HB7 := Lib.hid hB7
        have hl1 : ps.length + 1 + 1 ≤ 1000001 := by omega
        clear k7 q7 s7 hB7 X6 H6 K6
        go_wp2_with (at_builtin; refine wp_rapp rowS (base := base) (v := .slice a1 (ps.length + 1) c1) (n := ps.length + 1) (m := 1) (xs := (Wg.sts x0 ps).map str) (ys := [.string P]) S7.out (Src.one w7 [.string P] 9 rfl (one_one P)) hl1 HB7.out rfl _ _ rfl rfl rfl ?_)
        intro v8 w8 o8 g8 b8 n8
        obtain ⟨a8, c8, rfl⟩ := o8.form
        have A8 := H7.out.addS X7.out.ld (Wg.fin x0 qs).st (by rw [l1, HP.out]; exact o8) g8 b8
        rw [← hq1.out] at A8
        have H8 := Lib.hid A8.1
        have X8 := Lib.hid (X7.out.to A8.2)
        have K8 : Hid (Kept w1 w8) := Lib.hid (But.after K7.out b8 fun i hi e => by have := (S7.out.blk e).1; have := HB.out; omega)
        clear o8 g8 b8 n8 A8 X7 H7 K7 S7 HB7
        go_wp2_with fail
        refine (records_any w8 X8.out.ld.log).mono ?_
        rintro e w9 ⟨val, rfl, r9, k9⟩
        obtain ⟨av9, cv9, rfl⟩ := r9.form
        have f1 : Hid (RApart lv5 (.slice av9 (Wg.fin x0 qs).l.length cv9)) := Lib.hid fun i e1 e2 => by
          obtain ⟨_, cur, hg⟩ := X8.out.ld.log.row.blk e1
          have := heap_lt hg
          have := (r9.blk e2).1
          omega
        have f2 : Hid (RApart (.slice a8 (ps.length + 1 + 1) c8) (.slice av9 (Wg.fin x0 qs).l.length cv9)) := Lib.hid fun i e1 e2 => by
          obtain ⟨_, cur, hg⟩ := H8.out.sts.blk e1
          have := heap_lt hg
          have := (r9.blk e2).1
          omega
        have hb9 : base ≤ w8.heap.size := by have := X8.out.ld.log.low; have := heap_lt X8.out.ld.log.blk; omega
        have ka9 := (Kept.refl w9).alloc (.cells #[.slice av9 (Wg.fin x0 qs).l.length cv9] 49)
        have q9 := k9.trans ka9
        have R9 := Lib.hid ((r9.kept ka9).mono hb9)
        have X9 := Lib.hid (X8.out.kept q9)
        have H9 := Lib.hid (H8.out.kept q9)
        have K9 := Lib.hid (K8.out.trans q9)
        obtain ⟨vals, o9, hv9⟩ := H9.out.rows
        rw [l2] at o9
        have O9 := Lib.hid o9
        have HV9 := Lib.hid hv9
        have HB9 : Hid (base ≤ (w9.alloc (.cells #[.slice av9 (Wg.fin x0 qs).l.length cv9] 49)).heap.size) := Lib.hid (Nat.le_trans hb9 q9.size)
        clear r9 k9 ka9 q9 hb9 o9 hv9 X8 H8 K8
        go_wp2_with (at_builtin; refine wp_rapp rowL (base := base) (v := .slice a2 (ps.length + 1) c2) (n := ps.length + 1) (m := 1) (xs := vals) (ys := [.slice av9 (Wg.fin x0 qs).l.length cv9]) O9.out (Src.one w9 [.slice av9 (Wg.fin x0 qs).l.length cv9] 49 rfl (by simp [Value.oneCell'])) hl1 HB9.out rfl _ _ rfl rfl rfl ?_)
        intro v10 w10 o10 g10 b10 n10
        obtain ⟨a10, c10, rfl⟩ := o10.form
        have A10 := H9.out.addL X9.out.ld _ (Wg.fin x0 qs).l R9.out f1.out f2.out (by rw [l2]; exact O9.out) HV9.out (by rw [l2]; exact o10) b10
        rw [← hq2.out] at A10
        have H10 := Lib.hid A10.1
        have X10 := Lib.hid (X9.out.to A10.2)
        have K10 : Hid (Kept w1 w10) := Lib.hid (But.after K9.out b10 fun i hi e => by have := (O9.out.blk e).1; have := HB.out; omega)
        clear o10 g10 b10 n10 A10 X9 H9 K9 O9 HB9 HV9 R9 f1 f2
        go_wp2_with fail
        refine (units_is (T1 : Int) w10 X10.out.ld.dsk (by rw [HT1.out])).mono ?_
        rintro e w11 ⟨rfl, k11⟩
        have q11 := k11.trans ((Kept.refl w11).alloc (.cells #[.int .i64 T1] 3))
        have X11 := Lib.hid (X10.out.kept q11)
        have H11 := Lib.hid (H10.out.kept q11)
        have K11 := Lib.hid (K10.out.trans q11)
        have s11 := H11.out.uns
        rw [l3] at s11
        have S11 := Lib.hid s11
        have HB11 : Hid (base ≤ (w11.alloc (.cells #[.int .i64 T1] 3)).heap.size) := Lib.hid (by have := X11.out.ld.log.low; have := heap_lt X11.out.ld.log.blk; omega)
        clear k11 q11 s11 X10 H10 K10
        go_wp2_with (at_builtin; refine wp_rapp rowI (base := base) (v := .slice a3 (ps.length + 1) c3) (n := ps.length + 1) (m := 1) (xs := ints (0 :: Wg.ks 0 x0 ps)) (ys := [.int .i64 T1]) S11.out (Src.one w11 [.int .i64 T1] 3 rfl (by simp [Value.oneCell'])) hl1 HB11.out rfl _ _ rfl rfl rfl ?_)
        intro v12 w12 o12 g12 b12 n12
        obtain ⟨a12, c12, rfl⟩ := o12.form
        have A12 := H11.out.addU X11.out.ld (T0 + Wg.key (Wg.fin x0 ps) (.app s.data.toList)) (by first | (rw [l3, hUV.out]; exact o12) | (rw [l3]; exact o12)) b12
        rw [← hq3.out] at A12
        have H12 := Lib.hid A12.1
        have X12 := Lib.hid (X11.out.to A12.2)
        have K12 : Hid (Kept w1 w12) := Lib.hid (But.after K11.out b12 fun i hi e => by have := (S11.out.blk e).1; have := HB.out; omega)
        clear o12 g12 b12 n12 A12 X11 H11 K11 S11 HB11
        go_wp2
        go_roundw
        case rel => exact ⟨k + 1, by omega, by go_num, Lib.hid ⟨K, _, x0, qs, lv5, _, m, X12.out, EX.out, OK.out, by omega, hq4.out, H12.out, K12.out⟩⟩
        case measure => simp [intOf]; omega
      · have k0 : (kd == 0) = false := by rw [beq_eq_false_iff_ne]; exact hk0
        by_cases hk1 : kd = 1
        · subst hk1
          have k1 : ((1 : Int) == 1) = true := rfl
          have hg := World.block_lt_of_cell? wr _ e1
          go_wp2_with fail
          refine (units_is (Dk.total (Wg.allw x0 ps) : Int) wr X.out.ld.dsk rfl).mono ?_
          rintro e w4 ⟨rfl, k4⟩
          have X4 := Lib.hid (X.out.kept k4)
          have H4 := Lib.hid (H.out.kept k4)
          have K4 := Lib.hid (KR.out.trans k4)
          have e1' := (Below.cell k4 (p := ⟨g, k * 3 + 1, none⟩) hg).trans e1
          clear k4 X H KR
          go_wp2_with fail
          refine (run_chk s w4 X4.out hsz (by omega) HT.out HB.out K4.out).mono ?_
          rintro e w5 ⟨rfl, v5, lv5, x5, _, u5, f⟩
          rw [← Wg.allw_snoc, ← Wg.fin_snoc] at x5
          obtain ⟨qs, hqs⟩ : ∃ qs, qs = ps ++ [.chk s.data.toList] := ⟨_, rfl⟩
          rw [← hqs] at x5
          have X5 := Lib.hid x5
          have H5 := Lib.hid (H4.out.log X4.out.ld f u5)
          have K5 := Lib.hid (X4.out.ld.still HB.out K4.out f)
          have HTT : Dk.total (Wg.allw x0 qs) = Dk.total (Wg.allw x0 ps) + 2 := by rw [hqs, Wg.allw_snoc, Dk.total_append, total_chk]
          have hkp := Wg.key_pos (Wg.fin x0 ps) (.chk s.data.toList)
          have hsm5 := x5.ld.dsk.small
          have hq1 : Hid (Wg.sts x0 qs = Wg.sts x0 ps ++ [(Wg.fin x0 qs).st]) := Lib.hid (by rw [hqs, Wg.sts_snoc])
          have hq2 : Hid (Wg.rws x0 qs = Wg.rws x0 ps ++ [(Wg.fin x0 qs).l]) := Lib.hid (by rw [hqs, Wg.rws_snoc])
          have hq3 : Hid (0 :: Wg.ks 0 x0 qs = (0 :: Wg.ks 0 x0 ps) ++ [Dk.total (Wg.allw x0 ps) + Wg.key (Wg.fin x0 ps) (.chk s.data.toList)]) := Lib.hid (by rw [hqs, Wg.ks_snoc, Nat.zero_add]; rfl)
          have hq4 : Hid (∀ a ∈ qs, Wg.least a) := Lib.hid fun a ha => by
            rw [hqs] at ha
            rcases List.mem_append.1 ha with ha | ha
            · exact PS.out a ha
            · rw [List.mem_singleton.1 ha]; show s.data.toList.length ≤ 60; rw [size_len]; exact hsz
          have hq5 : qs.length = ps.length + 1 := by rw [hqs, List.length_append, List.length_singleton]
          have hky : Wg.key (Wg.fin x0 ps) (.chk s.data.toList) = 1 := rfl
          rw [hky] at hkp hq3
          have hts : Hid (Dk.total (Wg.allw x0 qs) = Dk.total (Wg.allw x0 qs)) := Lib.hid rfl
          generalize Dk.total (Wg.allw x0 ps) = T0 at *
          obtain ⟨T1, hT1⟩ : ∃ T1, Dk.total (Wg.allw x0 qs) = T1 := ⟨_, rfl⟩
          rw [hT1] at HTT hsm5
          have HT1 := Lib.hid hT1
          have hUV : Hid (T0 + 1 = (T0 + 1 : Nat)) := Lib.hid (by omega)
          have HTN : Hid (T1 = T0 + 2) := Lib.hid HTT
          clear HTT
          clear x5 f u5 X4 H4 K4 hqs hT1 hts hky PS e0 e1 e1' hg
          go_wp2_with fail
          refine (units_is (T1 : Int) w5 X5.out.ld.dsk (by rw [HT1.out])).mono ?_
          rintro e w6 ⟨rfl, k6⟩
          have X6 := Lib.hid (X5.out.kept k6)
          have H6 := Lib.hid (H5.out.kept k6)
          have K6 := Lib.hid (K5.out.trans k6)
          clear k6 X5 H5 K5
          have r1 : IntKind.i64.wrap ((T0 : Int) + 2) = (T0 : Int) + 2 := by rw [IntKind.wrap_i64]; omega
          have r2 : ((T1 : Int) != (T0 : Int) + 2) = false := by have : (T1 : Int) = (T0 : Int) + 2 := by have := HTN.out; omega
                                                                 rw [this]; simp
          have r3 : IntKind.i64.wrap ((T0 : Int) + 1) = ((T0 + 1 : Nat) : Int) := by rw [IntKind.wrap_i64]; omega
          obtain ⟨P, hP, _, _⟩ := name_str (Wg.fin x0 qs).st
          have HP := Lib.hid hP
          clear hP
          go_wp2_with fail
          refine (state_any w6 X6.out.ld.log).mono ?_
          rintro e w7 ⟨rfl, k7⟩
          rw [HP.out]
          have q7 := k7.trans ((Kept.refl w7).alloc (.cells #[.string P] 9))
          have X7 := Lib.hid (X6.out.kept q7)
          have H7 := Lib.hid (H6.out.kept q7)
          have K7 := Lib.hid (K6.out.trans q7)
          have s7 := H7.out.sts
          unfold Tx at s7
          rw [l1] at s7
          have S7 := Lib.hid s7
          have hB7 : base ≤ (w7.alloc (.cells #[.string P] 9)).heap.size := by have := X7.out.ld.log.low; have := heap_lt X7.out.ld.log.blk; omega
          have HB7 := Lib.hid hB7
          have hl1 : ps.length + 1 + 1 ≤ 1000001 := by omega
          clear k7 q7 s7 hB7 X6 H6 K6
          go_wp2_with (at_builtin; refine wp_rapp rowS (base := base) (v := .slice a1 (ps.length + 1) c1) (n := ps.length + 1) (m := 1) (xs := (Wg.sts x0 ps).map str) (ys := [.string P]) S7.out (Src.one w7 [.string P] 9 rfl (one_one P)) hl1 HB7.out rfl _ _ rfl rfl rfl ?_)
          intro v8 w8 o8 g8 b8 n8
          obtain ⟨a8, c8, rfl⟩ := o8.form
          have A8 := H7.out.addS X7.out.ld (Wg.fin x0 qs).st (by rw [l1, HP.out]; exact o8) g8 b8
          rw [← hq1.out] at A8
          have H8 := Lib.hid A8.1
          have X8 := Lib.hid (X7.out.to A8.2)
          have K8 : Hid (Kept w1 w8) := Lib.hid (But.after K7.out b8 fun i hi e => by have := (S7.out.blk e).1; have := HB.out; omega)
          clear o8 g8 b8 n8 A8 X7 H7 K7 S7 HB7
          go_wp2_with fail
          refine (records_any w8 X8.out.ld.log).mono ?_
          rintro e w9 ⟨val, rfl, r9, k9⟩
          obtain ⟨av9, cv9, rfl⟩ := r9.form
          have f1 : Hid (RApart lv5 (.slice av9 (Wg.fin x0 qs).l.length cv9)) := Lib.hid fun i e1 e2 => by
            obtain ⟨_, cur, hg⟩ := X8.out.ld.log.row.blk e1
            have := heap_lt hg
            have := (r9.blk e2).1
            omega
          have f2 : Hid (RApart (.slice a8 (ps.length + 1 + 1) c8) (.slice av9 (Wg.fin x0 qs).l.length cv9)) := Lib.hid fun i e1 e2 => by
            obtain ⟨_, cur, hg⟩ := H8.out.sts.blk e1
            have := heap_lt hg
            have := (r9.blk e2).1
            omega
          have hb9 : base ≤ w8.heap.size := by have := X8.out.ld.log.low; have := heap_lt X8.out.ld.log.blk; omega
          have ka9 := (Kept.refl w9).alloc (.cells #[.slice av9 (Wg.fin x0 qs).l.length cv9] 49)
          have q9 := k9.trans ka9
          have R9 := Lib.hid ((r9.kept ka9).mono hb9)
          have X9 := Lib.hid (X8.out.kept q9)
          have H9 := Lib.hid (H8.out.kept q9)
          have K9 := Lib.hid (K8.out.trans q9)
          obtain ⟨vals, o9, hv9⟩ := H9.out.rows
          rw [l2] at o9
          have O9 := Lib.hid o9
          have HV9 := Lib.hid hv9
          have HB9 : Hid (base ≤ (w9.alloc (.cells #[.slice av9 (Wg.fin x0 qs).l.length cv9] 49)).heap.size) := Lib.hid (Nat.le_trans hb9 q9.size)
          clear r9 k9 ka9 q9 hb9 o9 hv9 X8 H8 K8
          go_wp2_with (at_builtin; refine wp_rapp rowL (base := base) (v := .slice a2 (ps.length + 1) c2) (n := ps.length + 1) (m := 1) (xs := vals) (ys := [.slice av9 (Wg.fin x0 qs).l.length cv9]) O9.out (Src.one w9 [.slice av9 (Wg.fin x0 qs).l.length cv9] 49 rfl (by simp [Value.oneCell'])) hl1 HB9.out rfl _ _ rfl rfl rfl ?_)
          intro v10 w10 o10 g10 b10 n10
          obtain ⟨a10, c10, rfl⟩ := o10.form
          have A10 := H9.out.addL X9.out.ld _ (Wg.fin x0 qs).l R9.out f1.out f2.out (by rw [l2]; exact O9.out) HV9.out (by rw [l2]; exact o10) b10
          rw [← hq2.out] at A10
          have H10 := Lib.hid A10.1
          have X10 := Lib.hid (X9.out.to A10.2)
          have K10 : Hid (Kept w1 w10) := Lib.hid (But.after K9.out b10 fun i hi e => by have := (O9.out.blk e).1; have := HB.out; omega)
          clear o10 g10 b10 n10 A10 X9 H9 K9 O9 HB9 HV9 R9 f1 f2
          have k11 : Kept w10 w10 := Kept.refl w10
          obtain ⟨w11, hw11⟩ : ∃ w11, w11 = w10 := ⟨_, rfl⟩
          have q11 := (Kept.refl w10).alloc (.cells #[.int .i64 (T0 + 1 : Nat)] 3)
          have X11 := Lib.hid (X10.out.kept q11)
          have H11 := Lib.hid (H10.out.kept q11)
          have K11 := Lib.hid (K10.out.trans q11)
          have s11 := H11.out.uns
          rw [l3] at s11
          have S11 := Lib.hid s11
          have HB11 : Hid (base ≤ (w10.alloc (.cells #[.int .i64 (T0 + 1 : Nat)] 3)).heap.size) := Lib.hid (by have := X11.out.ld.log.low; have := heap_lt X11.out.ld.log.blk; omega)
          clear k11 q11 s11 X10 H10 K10
          go_wp2_with (at_builtin; refine wp_rapp rowI (base := base) (v := .slice a3 (ps.length + 1) c3) (n := ps.length + 1) (m := 1) (xs := ints (0 :: Wg.ks 0 x0 ps)) (ys := [.int .i64 (T0 + 1 : Nat)]) S11.out (Src.one w10 [.int .i64 (T0 + 1 : Nat)] 3 rfl (by simp [Value.oneCell'])) hl1 HB11.out rfl _ _ rfl rfl rfl ?_)
          intro v12 w12 o12 g12 b12 n12
          obtain ⟨a12, c12, rfl⟩ := o12.form
          have A12 := H11.out.addU X11.out.ld (T0 + 1) (by first | (rw [l3, hUV.out]; exact o12) | (rw [l3]; exact o12)) b12
          rw [← hq3.out] at A12
          have H12 := Lib.hid A12.1
          have X12 := Lib.hid (X11.out.to A12.2)
          have K12 : Hid (Kept w1 w12) := Lib.hid (But.after K11.out b12 fun i hi e => by have := (S11.out.blk e).1; have := HB.out; omega)
          clear o12 g12 b12 n12 A12 X11 H11 K11 S11 HB11
          go_wp2
          go_roundw
          case rel => exact ⟨k + 1, by omega, by go_num, Lib.hid ⟨K, _, x0, qs, lv5, _, m, X12.out, EX.out, OK.out, by omega, hq4.out, H12.out, K12.out⟩⟩
          case measure => simp [intOf]; omega
        · have k1 : (kd == 1) = false := by rw [beq_eq_false_iff_ne]; exact hk1
          go_wp2_with fail
          refine (run_sync wr X.out).mono ?_
          rintro e w4 ⟨rfl, v4, lv4, x4, _, _, f⟩
          have K4 := Lib.hid (X.out.ld.still HB.out KR.out f)
          generalize nowF K (Wg.allw x0 ps) = KZ at x4
          generalize Wg.fin x0 ps = y at x4
          have X4 := Lib.hid x4
          clear x4 f X KR H EX OK PS
          obtain ⟨P, hP, _, _⟩ := name_str y.st
          have HP := Lib.hid hP
          clear hP
          go_wp2_with fail
          refine (state_any w4 X4.out.ld.log).mono ?_
          rintro e w5 ⟨rfl, k5⟩
          rw [HP.out]
          have X5 := Lib.hid (X4.out.kept k5)
          have K5 := Lib.hid (K4.out.trans k5)
          have ka5 := (Kept.refl w5).alloc (.cells #[.string P] 9)
          have Y5 := Lib.hid (X5.out.kept ka5)
          clear k5 X4 K4
          go_wp2_with fail
          refine (records_any _ Y5.out.ld.log).mono ?_
          rintro e w6 ⟨val, rfl, r6, k6⟩
          obtain ⟨av6, cv6, rfl⟩ := r6.form
          rw [World.size_alloc] at r6
          have h6 := Hist.make X5.out.ld y.st P HP.out _ y.l k6 r6
          have q6 := (ka5.trans k6).trans (((Kept.refl w6).alloc (.cells #[.slice av6 y.l.length cv6] 49)).alloc (.cells #[.int .i64 0] 3))
          have H6 := Lib.hid h6
          have X6 := Lib.hid ((X5.out.kept q6).more (Nat.le_succ k))
          have K6 := Lib.hid (K5.out.trans q6)
          clear h6 q6 r6 k6 ka5 X5 K5 Y5
          go_wp2
          go_roundw
          case rel => exact ⟨k + 1, by omega, by go_num, Lib.hid ⟨KZ, _, y, [], lv4, _, k + 1, X6.out, X6.out.ex, X6.out.ok, Nat.le_refl _, (fun a ha => by cases ha), H6.out, K6.out⟩⟩
          case measure => simp [intOf]; omega
    · have hkk : k = n := by omega
      subst hkk
      have hsm := X.out.ld.dsk.small
      have KR1 := Lib.hid KR.out
      obtain ⟨us, hus⟩ : ∃ us, us = Wg.ks 0 x0 ps := ⟨_, rfl⟩
      have hul : us.length = ps.length := by rw [hus, Wg.ks_len]
      rw [← hus] at H
      obtain ⟨T, hT⟩ : ∃ T, T = Dk.total (Wg.allw x0 ps) := ⟨_, rfl⟩
      rw [← hT] at hsm
      have HTT := Lib.hid hT
      obtain ⟨M, hM⟩ : ∃ M : Nat, bits BinOp.and IntKind.i64 nn 65535 = (M : Int) := ⟨_, (Int.toNat_of_nonneg (and_mask nn 65535 (by decide)).1).symm⟩
      have r1 : IntKind.i64.wrap ((T : Int) + 1) = (T : Int) + 1 := by rw [IntKind.wrap_i64]; omega
      have r2 : ¬ ((T : Int) + 1) = 0 := by omega
      have htm : (M : Int).tmod ((T : Int) + 1) = ((M % (T + 1) : Nat) : Int) := by
        rw [Int.tmod_eq_emod_of_nonneg (by omega), Int.natCast_emod]
        simp
      obtain ⟨m0, hm0⟩ : ∃ m0 : Nat, m0 = M % (T + 1) := ⟨_, rfl⟩
      have hmT : m0 ≤ T := by
        have h2 := Nat.mod_lt M (show 0 < T + 1 by omega)
        omega
      rw [← hm0, ← hM] at htm
      have HTM := Lib.hid htm
      have HUS := Lib.hid hus
      clear hm0 hM htm hT hus
      go_wp2_with fail
      refine (units_is (T : Int) wr X.out.ld.dsk (by rw [HTT.out])).mono ?_
      rintro e w4 ⟨rfl, k4⟩
      have X4 := Lib.hid (X.out.kept k4)
      have H4 := Lib.hid (H.out.kept k4)
      have K4 := Lib.hid (KR.out.trans k4)
      clear k4 X H KR KR1
      obtain ⟨q1, q2, a3', hz3⟩ : ps.length + 1 ≤ c3 ∧ c3 ≤ maxLen ∧ ∃ g off, a3 = some ⟨g, off, none⟩ ∧ ∀ j, j < us.length → ∀ u, us[j]? = some u → w4.cell? ⟨g, off + (j + 1), none⟩ = some (.int .i64 (u : Nat)) := by
        obtain ⟨_, _, h⟩ := H4.out.uns
        rcases h with ⟨e, _⟩ | ⟨g, off, cap', cur, e, h2, h3, h4, hg, h5, h6⟩
        · injection e with _ e _
          omega
        · injection e with e1 e2 e3
          subst e3
          refine ⟨by rw [List.length_cons, hul] at h2; exact h2, h3, g, off, e1, fun j hj u hu => ?_⟩
          have := h6 (j + 1) (.int .i64 (u : Nat)) (by simp [ints, hu])
          simp [World.cell?, hg, this]
      obtain ⟨off3, rfl, hc3⟩ := hz3
      have HC3 := Lib.hid hc3
      clear hc3
      unfold maxLen at q2
      go_wp2
      rw [HTM.out]
      have HY : Hid (∃ y, (Wg.sts x0 ps)[Wg.idx us m0]? = some y.st ∧ (Wg.rws x0 ps)[Wg.idx us m0]? = some y.l ∧ Wg.Ok y 40 ∧ Wg.Stands (Dk.after K (Wg.allw x0 ps) m0) y) := Lib.hid (by
        obtain ⟨i1, i2⟩ := Wg.idx_last ps 0 x0 m0 (Nat.zero_le _)
        rw [← HUS.out, Nat.sub_zero] at i1 i2
        exact ⟨_, i1, i2, (Wg.last_ok ps x0 m m0 OK.out PS.out).more (by omega), Wg.crash_acts ps EX.out (fun a ha => Wg.least_few (PS.out a ha)) (by have := OK.out.r; omega) m0⟩)
      obtain ⟨y, hy1, hy2, hy3, hy4⟩ := HY.out
      have I1 := Lib.hid hy1
      have I2 := Lib.hid hy2
      have OY := Lib.hid hy3
      have ST := Lib.hid hy4
      clear HY hy1 hy2 hy3 hy4 EX OK PS I3
      go_loop [16] (fun at_ => ∃ j : Nat, j ≤ ps.length ∧ at_ = .int .i64 j ∧ Hid (Wg.idx us m0 = j + Wg.idx (us.drop j) m0)) (fun at_ => ps.length - (intOf at_).toNat)
      case atStart => exact ⟨0, Nat.zero_le _, rfl, Lib.hid (by simp)⟩
      case round =>
        obtain ⟨j, hj, rfl, hi⟩ := hrel
        have rj : IntKind.i64.wrap ((j : Int) + 1) = (j : Int) + 1 := by rw [IntKind.wrap_i64]; omega
        have tj : ((j : Int) + 1).toNat = j + 1 := by omega
        by_cases h1 : j < ps.length
        · have hju : j < us.length := by omega
          have hc := HC3.out j hju us[j] (List.getElem?_eq_getElem hju)
          have hdr : Hid (us.drop j = us[j] :: us.drop (j + 1)) := Lib.hid (List.drop_eq_getElem_cons hju)
          generalize us[j] = u at hc hdr
          have d1 : (j : Int) + 1 < ((ps.length + 1 : Nat) : Int) := by omega
          by_cases h2 : u ≤ m0
          · have d2 : (u : Int) ≤ (m0 : Int) := by omega
            go_wp2
            go_round
            case rel => exact ⟨j + 1, by omega, by go_num, Lib.hid (by rw [hi.out, hdr.out, Wg.idx, if_pos h2]; omega)⟩
            case measure => simp [intOf]; omega
          · have d2 : ¬ (u : Int) ≤ (m0 : Int) := by omega
            have HJ : Hid (Wg.idx us m0 = j) := Lib.hid (by rw [hi.out, hdr.out, Wg.idx, if_neg h2]; omega)
            clear hdr h2 hju
            have hj1 : j < (Wg.sts x0 ps).length := by rw [l1]; omega
            go_wp2_with fail
            refine (crash_is (K' := Dk.after K (Wg.allw x0 ps) m0) (m0 : Int) ((min (m0 : Int).toNat (Dk.total (Wg.allw x0 ps)) : Nat) : Int) w4 X4.out.ld.dsk (by omega) (by omega) rfl (by rw [Int.toNat_natCast])).mono ?_
            rintro e w5 ⟨rfl, d5, f⟩
            have D5 := Lib.hid d5
            have K5 := Lib.hid (X4.out.ld.dsk.still HB.out K4.out f)
            have H5 := Lib.hid (H4.out.disk X4.out.ld.dsk f)
            clear d5 f X4 K4 H4
            go_wp2_with fail
            refine (run_open (k := 40) w5 D5.out (by decide) HT.out HB.out K5.out ST.out OY.out.r (by decide) OY.out.n OY.out.st OY.out.l).mono ?_
            rintro e w6 ⟨bm, lvm, rfl, m6, _, _, f⟩
            have M6 := Lib.hid m6
            have K6 := Lib.hid (D5.out.still HB.out K5.out f)
            have H6 := Lib.hid (H5.out.disk D5.out f)
            clear m6 f D5 K5 H5 ST
            go_wp2_with fail
            refine (units_is 0 w6 M6.out.ld.dsk rfl).mono ?_
            rintro e w7 ⟨rfl, k7⟩
            have M7 := Lib.hid (M6.out.kept k7)
            have K7 := Lib.hid (K6.out.trans k7)
            have H7 := Lib.hid (H6.out.kept k7)
            clear k7 M6 K6 H6
            have i1 := I1.out
            have i2 := I2.out
            rw [HJ.out] at i1 i2
            obtain ⟨g1, o1, rfl, b1, b2, _, P, hP, lP⟩ := H7.out.sts.at (k := j) hj1
            have lP2 : str y.st = .string P := by
              rw [List.getElem?_eq_getElem hj1] at i1
              injection i1 with i1
              rw [← i1, ← lP]
              rfl
            obtain ⟨vals, o7, hv7⟩ := H7.out.rows
            rw [l2] at o7
            have hjv : j < vals.length := by rw [o7.1]; omega
            obtain ⟨tv, -, -⟩ := hv7 j vals[j] y.l (List.getElem?_eq_getElem hjv) i2
            obtain ⟨a9, c9, e9⟩ := tv.form
            rw [e9] at tv
            obtain ⟨b3, b4, g2, o2, rfl, hV⟩ : ps.length + 1 ≤ c2 ∧ c2 ≤ maxLen ∧ ∃ g off, a2 = some ⟨g, off, none⟩ ∧ w7.cell? ⟨g, off + j, none⟩ = some (.slice a9 y.l.length c9) := by
              rcases o7.2.2 with ⟨e, h⟩ | ⟨g, off, cap', cur, e, h2, h3, h4, hg, h5, h6⟩
              · omega
              · injection e with e1 _ e3
                subst e3
                refine ⟨h2, h3, g, off, e1, ?_⟩
                have := h6 j _ (List.getElem?_eq_getElem hjv)
                rw [e9] at this
                simp [World.cell?, hg, this]
            have hgl1 := World.block_lt_of_cell? w7 _ hP
            have hgl2 := World.block_lt_of_cell? w7 _ hV
            have KS : Hid (∀ w', Kept w7 w' → w'.cell? ⟨g1, o1 + j, none⟩ = some (.string P) ∧ w'.cell? ⟨g2, o2 + j, none⟩ = some (.slice a9 y.l.length c9)) := Lib.hid fun w' q =>
              ⟨(Below.cell q (p := ⟨g1, o1 + j, none⟩) hgl1).trans hP, (Below.cell q (p := ⟨g2, o2 + j, none⟩) hgl2).trans hV⟩
            have CST : Hid (∀ w', Kept w7 w' → Calls Tryd.prog 31 #[.pointer (some ⟨bm, 0, none⟩)] w' fun e w'' => e = .returned (.string P) ∧ Kept w' w'') := Lib.hid fun w' q => by
              have := state_any w' (M7.out.kept q).ld.log
              rwa [lP2] at this
            have CRC : Hid (∀ w', Kept w7 w' → Calls Tryd.prog 32 #[.pointer (some ⟨bm, 0, none⟩)] w' fun e w'' => ∃ v, e = .returned v ∧ Tx w'' w'.heap.size v y.l ∧ Kept w' w'') := Lib.hid fun w' q => records_any w' (M7.out.kept q).ld.log
            have CSU : Hid (∀ w', Kept w7 w' → Calls Tryd.prog 34 #[.pointer (some ⟨bm, 0, none⟩)] w' fun e w'' => e = .returned (.int .i64 y.l.length) ∧ Kept w' w'') := Lib.hid fun w' q => sure_any w' (M7.out.kept q).ld.log
            have CFX : Hid (∀ w', Kept w7 w' → Calls Tryd.prog 24 #[] w' fun e w'' => e = .returned (.bool true) ∧ Kept w' w'') := Lib.hid fun w' q => fix_any w' (HT.out.kept (K7.out.trans q))
            have TV := Lib.hid tv
            have t1 := str_eq_self P
            have hbb : (y.l == y.l) = true := by simp
            have ji : (j : Int) < ((ps.length + 1 : Nat) : Int) := by omega
            have ji0 : (0 : Int) ≤ j := by omega
            have ji2 : (j : Int) < (ps.length : Int) + 1 := by omega
            have ji3 : j < ps.length + 1 := by omega
            unfold maxLen at b2 b4
            clear hP hV hgl1 hgl2 o7 hv7 i1 i2 lP lP2 e9 tv M7 H7
            go_wp2_with fail
            go_region_held3 (fun w' => w'.cell? ⟨g1, o1 + j, none⟩ = some (.string P) ∧ w'.cell? ⟨g2, o2 + j, none⟩ = some (.slice a9 y.l.length c9))
              (first | exact KS.out _ (Kept.refl _).drew | exact KS.out _ kA | exact KS.out _ kB | exact KS.out _ kC | exact KS.out _ kD | exact KS.out _ kE)
              (first
                | (go_at_call 31; refine (CST.out _ (Kept.refl _).drew).mono ?_; rintro e wA ⟨rfl, q⟩; have kA := (Kept.refl w7).drew.trans q)
                | (go_at_call 32; refine (CRC.out _ kA).mono ?_; rintro e wB ⟨rvB, rfl, rB, q⟩; obtain ⟨aB, cB, rfl⟩ := rB.form; have kB := kA.trans q)
                | (go_at_call 33; refine (same_any _ _ y.l y.l _ rB.strs (TV.out.kept kB).strs).mono ?_; rintro e wC ⟨rfl, q⟩; rw [hbb]; have kC := kB.trans q)
                | (go_at_call 34; refine (CSU.out _ kC).mono ?_; rintro e wD ⟨rfl, q⟩; have kD := kC.trans q)
                | (go_at_call 24; refine (CFX.out _ kD).mono ?_; rintro e wE ⟨rfl, q⟩; have kE := kD.trans q))
            go_wp2
            go_ret
            exact ⟨rfl, (KW.out.trans K7.out).trans kE⟩
        · have d1 : ¬ (j : Int) + 1 < ((ps.length + 1 : Nat) : Int) := by omega
          have HJ : Hid (Wg.idx us m0 = j) := Lib.hid (by rw [hi.out, List.drop_of_length_le (by omega), Wg.idx]; omega)
          have hj1 : j < (Wg.sts x0 ps).length := by rw [l1]; omega
          go_wp2_with fail
          refine (crash_is (K' := Dk.after K (Wg.allw x0 ps) m0) (m0 : Int) ((min (m0 : Int).toNat (Dk.total (Wg.allw x0 ps)) : Nat) : Int) w4 X4.out.ld.dsk (by omega) (by omega) rfl (by rw [Int.toNat_natCast])).mono ?_
          rintro e w5 ⟨rfl, d5, f⟩
          have D5 := Lib.hid d5
          have K5 := Lib.hid (X4.out.ld.dsk.still HB.out K4.out f)
          have H5 := Lib.hid (H4.out.disk X4.out.ld.dsk f)
          clear d5 f X4 K4 H4
          go_wp2_with fail
          refine (run_open (k := 40) w5 D5.out (by decide) HT.out HB.out K5.out ST.out OY.out.r (by decide) OY.out.n OY.out.st OY.out.l).mono ?_
          rintro e w6 ⟨bm, lvm, rfl, m6, _, _, f⟩
          have M6 := Lib.hid m6
          have K6 := Lib.hid (D5.out.still HB.out K5.out f)
          have H6 := Lib.hid (H5.out.disk D5.out f)
          clear m6 f D5 K5 H5 ST
          go_wp2_with fail
          refine (units_is 0 w6 M6.out.ld.dsk rfl).mono ?_
          rintro e w7 ⟨rfl, k7⟩
          have M7 := Lib.hid (M6.out.kept k7)
          have K7 := Lib.hid (K6.out.trans k7)
          have H7 := Lib.hid (H6.out.kept k7)
          clear k7 M6 K6 H6
          have i1 := I1.out
          have i2 := I2.out
          rw [HJ.out] at i1 i2
          obtain ⟨g1, o1, rfl, b1, b2, _, P, hP, lP⟩ := H7.out.sts.at (k := j) hj1
          have lP2 : str y.st = .string P := by
            rw [List.getElem?_eq_getElem hj1] at i1
            injection i1 with i1
            rw [← i1, ← lP]
            rfl
          obtain ⟨vals, o7, hv7⟩ := H7.out.rows
          rw [l2] at o7
          have hjv : j < vals.length := by rw [o7.1]; omega
          obtain ⟨tv, -, -⟩ := hv7 j vals[j] y.l (List.getElem?_eq_getElem hjv) i2
          obtain ⟨a9, c9, e9⟩ := tv.form
          rw [e9] at tv
          obtain ⟨b3, b4, g2, o2, rfl, hV⟩ : ps.length + 1 ≤ c2 ∧ c2 ≤ maxLen ∧ ∃ g off, a2 = some ⟨g, off, none⟩ ∧ w7.cell? ⟨g, off + j, none⟩ = some (.slice a9 y.l.length c9) := by
            rcases o7.2.2 with ⟨e, h⟩ | ⟨g, off, cap', cur, e, h2, h3, h4, hg, h5, h6⟩
            · omega
            · injection e with e1 _ e3
              subst e3
              refine ⟨h2, h3, g, off, e1, ?_⟩
              have := h6 j _ (List.getElem?_eq_getElem hjv)
              rw [e9] at this
              simp [World.cell?, hg, this]
          have hgl1 := World.block_lt_of_cell? w7 _ hP
          have hgl2 := World.block_lt_of_cell? w7 _ hV
          have KS : Hid (∀ w', Kept w7 w' → w'.cell? ⟨g1, o1 + j, none⟩ = some (.string P) ∧ w'.cell? ⟨g2, o2 + j, none⟩ = some (.slice a9 y.l.length c9)) := Lib.hid fun w' q =>
            ⟨(Below.cell q (p := ⟨g1, o1 + j, none⟩) hgl1).trans hP, (Below.cell q (p := ⟨g2, o2 + j, none⟩) hgl2).trans hV⟩
          have CST : Hid (∀ w', Kept w7 w' → Calls Tryd.prog 31 #[.pointer (some ⟨bm, 0, none⟩)] w' fun e w'' => e = .returned (.string P) ∧ Kept w' w'') := Lib.hid fun w' q => by
            have := state_any w' (M7.out.kept q).ld.log
            rwa [lP2] at this
          have CRC : Hid (∀ w', Kept w7 w' → Calls Tryd.prog 32 #[.pointer (some ⟨bm, 0, none⟩)] w' fun e w'' => ∃ v, e = .returned v ∧ Tx w'' w'.heap.size v y.l ∧ Kept w' w'') := Lib.hid fun w' q => records_any w' (M7.out.kept q).ld.log
          have CSU : Hid (∀ w', Kept w7 w' → Calls Tryd.prog 34 #[.pointer (some ⟨bm, 0, none⟩)] w' fun e w'' => e = .returned (.int .i64 y.l.length) ∧ Kept w' w'') := Lib.hid fun w' q => sure_any w' (M7.out.kept q).ld.log
          have CFX : Hid (∀ w', Kept w7 w' → Calls Tryd.prog 24 #[] w' fun e w'' => e = .returned (.bool true) ∧ Kept w' w'') := Lib.hid fun w' q => fix_any w' (HT.out.kept (K7.out.trans q))
          have TV := Lib.hid tv
          have t1 := str_eq_self P
          have hbb : (y.l == y.l) = true := by simp
          have ji : (j : Int) < ((ps.length + 1 : Nat) : Int) := by omega
          have ji0 : (0 : Int) ≤ j := by omega
          have ji2 : (j : Int) < (ps.length : Int) + 1 := by omega
          have ji3 : j < ps.length + 1 := by omega
          unfold maxLen at b2 b4
          clear hP hV hgl1 hgl2 o7 hv7 i1 i2 lP lP2 e9 tv M7 H7
          go_wp2_with fail
          go_region_held3 (fun w' => w'.cell? ⟨g1, o1 + j, none⟩ = some (.string P) ∧ w'.cell? ⟨g2, o2 + j, none⟩ = some (.slice a9 y.l.length c9))
            (first | exact KS.out _ (Kept.refl _).drew | exact KS.out _ kA | exact KS.out _ kB | exact KS.out _ kC | exact KS.out _ kD | exact KS.out _ kE)
            (first
              | (go_at_call 31; refine (CST.out _ (Kept.refl _).drew).mono ?_; rintro e wA ⟨rfl, q⟩; have kA := (Kept.refl w7).drew.trans q)
              | (go_at_call 32; refine (CRC.out _ kA).mono ?_; rintro e wB ⟨rvB, rfl, rB, q⟩; obtain ⟨aB, cB, rfl⟩ := rB.form; have kB := kA.trans q)
              | (go_at_call 33; refine (same_any _ _ y.l y.l _ rB.strs (TV.out.kept kB).strs).mono ?_; rintro e wC ⟨rfl, q⟩; rw [hbb]; have kC := kB.trans q)
              | (go_at_call 34; refine (CSU.out _ kC).mono ?_; rintro e wD ⟨rfl, q⟩; have kD := kC.trans q)
              | (go_at_call 24; refine (CFX.out _ kD).mono ?_; rintro e wE ⟨rfl, q⟩; have kE := kD.trans q))
          go_wp2
          go_ret
          exact ⟨rfl, (KW.out.trans K7.out).trans kE⟩
end Go.Proofs.YtenhncohhikllaaDoor
