/-
  The walk of a kind's allows.
-/
import Derived.Test.YtlfmpoinjbmjoaaGreatDoorFnum
import Derived.Test.YtlfmpoinjbmjoaaGreatDoorEage
import Derived.Test.YtlfmpoinjbmjoaaGreatDoorFuse
namespace Go.Proofs.YtlfmpoinjbmjoaaGreatDoor
open Go.ChangeShapes Go.WideShapes Go.ChangeAt Go.RowKit

theorem take_more {α : Type} {a b : List α} {k : Nat} (h : a.take k = b.take k) (ha : k < a.length) (hb : k < b.length) (he : a[k] = b[k]) : a.take (k + 1) = b.take (k + 1) := by
  rw [List.take_succ_eq_append_getElem ha, List.take_succ_eq_append_getElem hb, h, he]

theorem neq_mark (x y z u : Int) (w : World) : (binOp .neq 63 (.agg #[.int .i64 x, .int .i64 y]) (.agg #[.int .i64 z, .int .i64 u])).run Tryz.prog w = .ok (.bool (!decide (x = z ∧ y = u))) w := by
  by_cases h1 : x = z
  · subst h1
    by_cases h2 : y = u
    · subst h2; simp [go_sem]
    · simp [go_sem, h2]
  · simp [go_sem, h1]

set_option maxHeartbeats 1000000 in
set_option maxRecDepth 100000 in
theorem slEqual_any (av bv : Option Addr) (ca cb : Nat) (ms ns : List Ev.M) (w : World) (h : MkS w av ca ms) (h' : MkS w bv cb ns) :
    Calls Tryz.prog 38 #[.slice av ms.length ca, .slice bv ns.length cb] w fun r w' => r = .returned (.bool (decide (ms = ns))) ∧ Kept w w' := by
  obtain ⟨h1, h2, h3, h4⟩ := h
  obtain ⟨g1, g2, g3, g4⟩ := h'
  by_cases hne : ms.length = ns.length
  · obtain ⟨n, hn⟩ : ∃ n, n = ms.length := ⟨_, rfl⟩
    rw [← hne] at g1 ⊢
    rw [← hn] at h1 g1 hne ⊢
    have Hn := Lib.hid hn
    have Hne := Lib.hid hne
    have H3 := Lib.hid h3
    have H4 := Lib.hid h4
    have G4 := Lib.hid g4
    have G3 := Lib.hid g3
    clear hn h3 h4 g4 g3 hne
    go_enter Tryz.func38, Tryz.ntmps38
    go_wp2
    go_loopw [5, 13] (fun _ i wr => ∃ k : Nat, k ≤ n ∧ i = .int .i64 k ∧ Kept w wr ∧ Hid (ms.take k = ns.take k)) (fun _ i _ => n - (intOf i).toNat)
    case atStart => exact ⟨0, by omega, rfl, Kept.refl _, rfl⟩
    case round =>
      obtain ⟨k, hk, rfl, hkk, HE⟩ := hrel
      have HK := Lib.hid hkk
      by_cases hlt : k < n
      · have hkl : k < ms.length := by rw [← Hn.out]; exact hlt
        have hkl2 : k < ns.length := by rw [← Hne.out]; exact hlt
        obtain ⟨⟨mo, ms_⟩, hm⟩ : ∃ m, ms[k] = m := ⟨_, rfl⟩
        obtain ⟨⟨no, ns_⟩, hm2⟩ : ∃ m, ns[k] = m := ⟨_, rfl⟩
        rcases H4.out with h0 | ⟨b, off, rfl, hbl, hc⟩
        · rw [h0] at hkl; simp at hkl
        rcases G4.out with h0 | ⟨b2, off2, rfl, hbl2, hc2⟩
        · rw [h0] at hkl2; simp at hkl2
        have hcc := hc k ⟨mo, ms_⟩ (by rw [List.getElem?_eq_getElem hkl, hm])
        have hcc2 := hc2 k ⟨no, ns_⟩ (by rw [List.getElem?_eq_getElem hkl2, hm2])
        have d0 : wr.cell? ⟨b, off + k * 2, none⟩ = some (.int .i64 mo) := (Below.cell hkk (p := ⟨b, off + k * 2, none⟩) hbl).trans hcc.1
        have d1 : wr.cell? ⟨b, off + k * 2 + 1, none⟩ = some (.int .i64 ms_) := (Below.cell hkk (p := ⟨b, off + k * 2 + 1, none⟩) hbl).trans hcc.2
        have d2 : wr.cell? ⟨b2, off2 + k * 2, none⟩ = some (.int .i64 no) := (Below.cell hkk (p := ⟨b2, off2 + k * 2, none⟩) hbl2).trans hcc2.1
        have d3 : wr.cell? ⟨b2, off2 + k * 2 + 1, none⟩ = some (.int .i64 ns_) := (Below.cell hkk (p := ⟨b2, off2 + k * 2 + 1, none⟩) hbl2).trans hcc2.2
        have t0 := KW.cell d0
        have t1 := KW.cell d1
        have t2 := KW.cell d2
        have t3 := KW.cell d3
        have hki : (k : Int) < (n : Int) := by omega
        have hneq := neq_mark mo ms_ no ns_
        have Hm := Lib.hid hm
        have Hm2 := Lib.hid hm2
        clear hcc hcc2 hc hc2 hm hm2 d0 d1 d2 d3
        by_cases he : mo = no ∧ ms_ = ns_
        · have HN : Hid (ms.take (k + 1) = ns.take (k + 1)) := take_more HE.out hkl hkl2 (by rw [Hm.out, Hm2.out, he.1, he.2])
          rw [decide_eq_true he] at hneq
          clear he
          simp only [Bool.not_true] at hneq
          go_wp2_with fail
          have nn : Nonempty (KW wr) := ⟨⟨wr, Kept.refl wr⟩⟩
          refine wp_region_kept (by kernel_rfl) (by kernel_rfl) ?_
          repeat (go_big_quiet_step (fail))
          refine wpQuiet_nil ?_
          intro w6 hw6
          have kk6 : Kept w w6 := by
            obtain ⟨p, rfl⟩ := hw6
            exact HK.out.trans p.h
          clear hw6 nn t0 t1 t2 t3 hneq
          go_wp2
          go_roundw
          case rel => exact ⟨k + 1, by omega, by go_num, kk6, HN⟩
          case measure => simp [intOf]; omega
        · have HX : Hid (decide (ms = ns) = false) := decide_eq_false fun e => he (by
            subst e
            have := Hm.out.symm.trans Hm2.out
            cases this
            exact ⟨rfl, rfl⟩)
          rw [decide_eq_false he] at hneq
          clear he
          simp only [Bool.not_false] at hneq
          go_wp2_with fail
          have nn : Nonempty (KW wr) := ⟨⟨wr, Kept.refl wr⟩⟩
          refine wp_region_kept (by kernel_rfl) (by kernel_rfl) ?_
          repeat (go_big_quiet_step (fail))
          refine wpQuiet_nil ?_
          intro w6 hw6
          have kk6 : Kept w w6 := by
            obtain ⟨p, rfl⟩ := hw6
            exact HK.out.trans p.h
          clear hw6 nn t0 t1 t2 t3 hneq
          go_wp2
          go_ret
          exact ⟨by rw [HX.out]; rfl, kk6⟩
      · obtain rfl : k = n := by omega
        have HX : Hid (decide (ms = ns) = true) := decide_eq_true (by
          have h := HE.out
          rw [List.take_of_length_le (by rw [← Hn.out]; exact Nat.le_refl _), List.take_of_length_le (by rw [← Hne.out]; exact Nat.le_refl _)] at h
          exact h)
        clear hkk
        go_wp2
        go_ret
        exact ⟨by rw [HX.out]; rfl, HK.out⟩
  · have HX : Hid (decide (ms = ns) = false) := decide_eq_false fun e => hne (by rw [e])
    generalize ms.length = n at *
    generalize ns.length = m at *
    have hq : ((n : Int) == (m : Int)) = false := by simp; omega
    have hq2 : ((n : Int) != (m : Int)) = true := by simp [bne, hq]
    clear h3 h4 g3 g4
    go_enter Tryz.func38, Tryz.ntmps38
    go_wp2
    go_ret
    exact ⟨by rw [HX.out]; rfl, Kept.refl _⟩
theorem eql_event (x y z : Int) (s t : ByteArray) (x' y' z' : Int) (s' t' : ByteArray) (w : World) : (binOp .eql 23 (.agg #[.int .i64 x, .int .i64 y, .string s, .string t, .int .i64 z]) (.agg #[.int .i64 x', .int .i64 y', .string s', .string t', .int .i64 z'])).run Tryz.prog w = .ok (.bool (decide ((⟨x, y, s, t, z⟩ : Ev.E) = ⟨x', y', s', t', z'⟩))) w := by
  by_cases h1 : x = x'
  · subst h1
    by_cases h2 : y = y'
    · subst h2
      by_cases h3 : s = s'
      · subst h3
        by_cases h4 : t = t'
        · subst h4
          by_cases h5 : z = z'
          · subst h5; simp [go_sem]
          · have e : ((⟨x, y, s, t, z⟩ : Ev.E) = ⟨x, y, s, t, z'⟩) ↔ False := ⟨fun e => h5 (by cases e; rfl), False.elim⟩
            simp [go_sem, e, h5]
        · have e : ((⟨x, y, s, t, z⟩ : Ev.E) = ⟨x, y, s, t', z'⟩) ↔ False := ⟨fun e => h4 (by cases e; rfl), False.elim⟩
          have e2 := str_ne h4
          simp [go_sem, e, e2]
      · have e : ((⟨x, y, s, t, z⟩ : Ev.E) = ⟨x, y, s', t', z'⟩) ↔ False := ⟨fun e => h3 (by cases e; rfl), False.elim⟩
        have e2 := str_ne h3
        simp [go_sem, e, e2]
    · have e : ((⟨x, y, s, t, z⟩ : Ev.E) = ⟨x, y', s', t', z'⟩) ↔ False := ⟨fun e => h2 (by cases e; rfl), False.elim⟩
      simp [go_sem, e, h2]
  · have e : ((⟨x, y, s, t, z⟩ : Ev.E) = ⟨x', y', s', t', z'⟩) ↔ False := ⟨fun e => h1 (by cases e; rfl), False.elim⟩
    simp [go_sem, e, h1]

/-- a part of the answer -/
theorem same_no {f g : Fr.F} (h : f ≠ g) : Hid (Fr.same f g = false) := decide_eq_false h
set_option maxHeartbeats 1000000 in
set_option maxRecDepth 100000 in
theorem same_fr (f g : Fr.F) (av bv : Option Addr) (ca cb : Nat) (w : World) (h : MkS w av ca f.ms) (h' : MkS w bv cb g.ms) :
    Calls Tryz.prog 16 #[frv f av ca, frv g bv cb] w fun r w' => r = .returned (.bool (Fr.same f g)) ∧ Kept w w' := by
  obtain ⟨k, ep, sq, cr, on, fl, ⟨eo, es, et, el, ed⟩, ms⟩ := f
  obtain ⟨k', ep', sq', cr', on', fl', ⟨eo', es', et', el', ed'⟩, ms'⟩ := g
  unfold frv frc
  simp only at h h' ⊢
  have KK : Hid (∀ (c c' : Array Value) (t t' : TypeId), Kept w ((w.alloc (.cells c t)).alloc (.cells c' t'))) := fun c c' t t' => ((Kept.refl w).alloc _).alloc _
  have CE : Hid (∀ (c c' : Array Value) (t t' : TypeId), Calls Tryz.prog 38 #[.slice av ms.length ca, .slice bv ms'.length cb] ((w.alloc (.cells c t)).alloc (.cells c' t')) fun r w' => r = .returned (.bool (decide (ms = ms'))) ∧ Kept ((w.alloc (.cells c t)).alloc (.cells c' t')) w') := fun c c' t t' => slEqual_any av bv ca cb ms ms' _ (h.kept (KK.out c c' t t')) (h'.kept (KK.out c c' t t'))
  clear h h'
  obtain ⟨n, hn⟩ : ∃ n, n = ms.length := ⟨_, rfl⟩
  obtain ⟨m, hm⟩ : ∃ m, m = ms'.length := ⟨_, rfl⟩
  rw [← hn, ← hm] at CE ⊢
  clear hn hm
  by_cases hk : k = k'
  rotate_left
  · have HX := same_no (f := ⟨k, ep, sq, cr, on, fl, ⟨eo, es, et, el, ed⟩, ms⟩) (g := ⟨k', ep', sq', cr', on', fl', ⟨eo', es', et', el', ed'⟩, ms'⟩) (fun e => hk (by cases e; rfl))
    have hq : (k == k') = false := by simpa using hk
    clear hk
    go_enter Tryz.func16, Tryz.ntmps16
    go_wp2
    go_ret
    exact ⟨by rw [HX.out]; rfl, KK.out _ _ _ _⟩
  subst hk
  by_cases hep : ep = ep'
  rotate_left
  · have HX := same_no (f := ⟨k, ep, sq, cr, on, fl, ⟨eo, es, et, el, ed⟩, ms⟩) (g := ⟨k, ep', sq', cr', on', fl', ⟨eo', es', et', el', ed'⟩, ms'⟩) (fun e => hep (by cases e; rfl))
    have hq : (ep == ep') = false := by simpa using hep
    clear hep
    go_enter Tryz.func16, Tryz.ntmps16
    go_wp2
    go_ret
    exact ⟨by rw [HX.out]; rfl, KK.out _ _ _ _⟩
  subst hep
  by_cases hsq : sq = sq'
  rotate_left
  · have HX := same_no (f := ⟨k, ep, sq, cr, on, fl, ⟨eo, es, et, el, ed⟩, ms⟩) (g := ⟨k, ep, sq', cr', on', fl', ⟨eo', es', et', el', ed'⟩, ms'⟩) (fun e => hsq (by cases e; rfl))
    have hq : (sq == sq') = false := by simpa using hsq
    clear hsq
    go_enter Tryz.func16, Tryz.ntmps16
    go_wp2
    go_ret
    exact ⟨by rw [HX.out]; rfl, KK.out _ _ _ _⟩
  subst hsq
  by_cases hcr : cr = cr'
  rotate_left
  · have HX := same_no (f := ⟨k, ep, sq, cr, on, fl, ⟨eo, es, et, el, ed⟩, ms⟩) (g := ⟨k, ep, sq, cr', on', fl', ⟨eo', es', et', el', ed'⟩, ms'⟩) (fun e => hcr (by cases e; rfl))
    have hq : (cr == cr') = false := by simpa using hcr
    clear hcr
    go_enter Tryz.func16, Tryz.ntmps16
    go_wp2
    go_ret
    exact ⟨by rw [HX.out]; rfl, KK.out _ _ _ _⟩
  subst hcr
  by_cases hon : on = on'
  rotate_left
  · have HX := same_no (f := ⟨k, ep, sq, cr, on, fl, ⟨eo, es, et, el, ed⟩, ms⟩) (g := ⟨k, ep, sq, cr, on', fl', ⟨eo', es', et', el', ed'⟩, ms'⟩) (fun e => hon (by cases e; rfl))
    cases on <;> cases on' <;> first | exact absurd rfl hon | skip
    all_goals
      clear hon
      go_enter Tryz.func16, Tryz.ntmps16
      go_wp2
      go_ret
      exact ⟨by rw [HX.out]; rfl, KK.out _ _ _ _⟩
  subst hon
  by_cases hfl : fl = fl'
  rotate_left
  · have HX := same_no (f := ⟨k, ep, sq, cr, on, fl, ⟨eo, es, et, el, ed⟩, ms⟩) (g := ⟨k, ep, sq, cr, on, fl', ⟨eo', es', et', el', ed'⟩, ms'⟩) (fun e => hfl (by cases e; rfl))
    have hq := str_ne hfl
    clear hfl
    go_enter Tryz.func16, Tryz.ntmps16
    go_wp2
    go_ret
    exact ⟨by rw [HX.out]; rfl, KK.out _ _ _ _⟩
  subst hfl
  have hev := eql_event eo es ed et el eo' es' ed' et' el'
  by_cases he : (⟨eo, es, et, el, ed⟩ : Ev.E) = ⟨eo', es', et', el', ed'⟩
  rotate_left
  · have HX := same_no (f := ⟨k, ep, sq, cr, on, fl, ⟨eo, es, et, el, ed⟩, ms⟩) (g := ⟨k, ep, sq, cr, on, fl, ⟨eo', es', et', el', ed'⟩, ms'⟩) (fun e => he (by cases e; rfl))
    rw [decide_eq_false he] at hev
    clear he
    go_enter Tryz.func16, Tryz.ntmps16
    go_wp2
    go_ret
    exact ⟨by rw [HX.out]; rfl, KK.out _ _ _ _⟩
  rw [decide_eq_true he] at hev
  have HX : Hid (Fr.same ⟨k, ep, sq, cr, on, fl, ⟨eo, es, et, el, ed⟩, ms⟩ ⟨k, ep, sq, cr, on, fl, ⟨eo', es', et', el', ed'⟩, ms'⟩ = decide (ms = ms')) := by
    show Fr.same _ _ = _
    rw [he]
    unfold Fr.same
    by_cases hmm : ms = ms'
    · rw [hmm, decide_eq_true rfl, decide_eq_true rfl]
    · rw [decide_eq_false hmm, decide_eq_false fun e => hmm (by cases e; rfl)]
  clear he
  go_enter Tryz.func16, Tryz.ntmps16
  go_wp2_with fail
  refine (CE.out _ _ _ _).mono ?_
  rintro r w1 ⟨rfl, k1⟩
  generalize decide (ms = ms') = bb at *
  cases bb
  · go_wp2
    go_ret
    exact ⟨by rw [HX.out]; rfl, (KK.out _ _ _ _).trans k1⟩
  · go_wp2
    go_ret
    exact ⟨by rw [HX.out]; rfl, (KK.out _ _ _ _).trans k1⟩
end Go.Proofs.YtlfmpoinjbmjoaaGreatDoor

namespace Go.Proofs.YtlfmpoinjbmjoaaGreatDoor
open Go.ChangeShapes Go.WideShapes Go.ChangeAt Go.RowKit

theorem MkS.low {w : World} {av : Option Addr} {cap : Nat} {ms : List Ev.M} (h : MkS w av cap ms) (g : Nat) (hg : w.heap.size ≤ g) : ms = [] ∨ ∀ x, av = some x → x.block ≠ g := by
  rcases h.at_ with h0 | ⟨b, off, rfl, h2, _⟩
  · exact .inl h0
  · exact .inr fun x hx => by cases hx; show b ≠ g; omega
theorem part_cell {w : World} {b k : Nat} {ps : List Fr.P} (hb : Blk w b (ps.map partv).toArray 54) (hk : k < ps.length) : w.cell? ⟨b, k, none⟩ = some (.iface (pt ps[k]) (pv ps[k])) := by
  rw [hb.cell k]
  simp only [List.getElem?_toArray, List.getElem?_map, List.getElem?_eq_getElem hk, Option.map_some, partv_eq]
theorem all_take {ps : List Fr.P} {f : Fr.F} {k : Nat} (hk : k < ps.length) (h : (ps.take k).all (fun p => p.right f) = true) (hr : ps[k].right f = true) : (ps.take (k + 1)).all (fun p => p.right f) = true := by
  rw [List.take_succ_eq_append_getElem hk, List.all_append, h]
  simp [hr]
theorem drop_take {ps : List Fr.P} {g : Fr.F} {k : Nat} (hk : k < ps.length) : (ps.take (k + 1)).foldl (fun g p => p.drop g) g = ps[k].drop ((ps.take k).foldl (fun g p => p.drop g) g) := by
  rw [List.take_succ_eq_append_getElem hk, List.foldl_append]
  rfl
theorem allows_not {ps : List Fr.P} {f : Fr.F} {k : Nat} (hk : k < ps.length) (hr : ps[k].right f = false) : Fr.allows ps f = false := by
  unfold Fr.allows
  rw [Bool.and_eq_false_iff]
  left
  rw [List.all_eq_false]
  exact ⟨ps[k], List.getElem_mem hk, by simp [hr]⟩

set_option maxHeartbeats 1000000 in
set_option maxRecDepth 100000 in
theorem allows_any (nm : ByteArray) (f : Fr.F) (av : Option Addr) (cap : Nat) (b n : Nat) (w : World) (ps : List Fr.P) (hn : ps.length = n) (hb : Blk w b (ps.map partv).toArray 54) (hn2 : n ≤ 3) (hf : FrS w f av cap) :
    Calls Tryz.prog 48 #[.agg #[.string nm, .slice (some ⟨b, 0, none⟩) n n], frv f av cap] w fun r w' => r = .returned (.bool (Fr.allows ps f)) ∧ Kept w w' := by
  have hlt := hb.lt
  have HB := Lib.hid hb
  have Hn := Lib.hid hn
  have HF := Lib.hid hf
  clear hb hn hf
  obtain ⟨R, hR⟩ : ∃ R, R = w.heap.size := ⟨_, rfl⟩
  have bk : Kept w (((w.alloc (.cells #[.string nm, .slice (some ⟨b, 0, none⟩) n n] 44)).alloc (.cells (frc f av cap) 26)).alloc (.cells (frc { f with k := 0 } av cap) 26)) := (((Kept.refl w).alloc _).alloc _).alloc _
  have b1 := (Blk.made (w.alloc (.cells #[.string nm, .slice (some ⟨b, 0, none⟩) n n] 44)) (frc f av cap) 26).alloc (.cells (frc { f with k := 0 } av cap) 26)
  have b2 := Blk.made ((w.alloc (.cells #[.string nm, .slice (some ⟨b, 0, none⟩) n n] 44)).alloc (.cells (frc f av cap) 26)) (frc { f with k := 0 } av cap) 26
  simp only [World.size_alloc] at b1 b2
  unfold frc at b1 b2 bk
  simp only at b1 b2 bk
  unfold frv frc
  go_enter Tryz.func48, Tryz.ntmps48
  go_wp2
  generalize hW0 : (((w.alloc (Obj.cells #[Value.string nm, Value.slice (some ⟨b, 0, none⟩) n n] 44)).alloc _).alloc _) = W0 at b1 b2 bk ⊢
  rw [← hR] at b1 b2 ⊢
  have B1 := Lib.hid (show Blk W0 (R + 1) (frc f av cap) 26 from b1)
  have B2 := Lib.hid (show Blk W0 (R + 1 + 1) (frc { f with k := 0 } av cap) 26 from b2)
  have BK := Lib.hid bk
  clear b1 b2 bk hW0
  have h1 : FrB W0 (R + 1) f av cap := ⟨B1.out, HF.out.kept BK.out, HF.out.ms.low (R + 1) (by omega)⟩
  have hs2 : FrS W0 { f with k := 0 } av cap := ⟨i64_zero, HF.out.ep, HF.out.sq, HF.out.cr, HF.out.fl, HF.out.et, HF.out.e, HF.out.ms.kept BK.out⟩
  have h2 : FrB W0 (R + 1 + 1) { f with k := 0 } av cap := ⟨B2.out, hs2, HF.out.ms.low (R + 1 + 1) (by omega)⟩
  have H1 := Lib.hid h1
  have H2 := Lib.hid h2
  have HB0 := Lib.hid (HB.out.kept BK.out)
  have Hlow := Lib.hid (HF.out.ms.low (R + 1 + 1) (by omega))
  have HKT : Hid (∀ w', But (fun i => i = R + 1 + 1) W0 w' → Kept w w') := fun w' k => But.after BK.out k (fun i hi => by rw [← hR] at hi; omega)
  have hRb : b < R := by omega
  clear h1 h2 hs2 B1 B2 hlt HB hR
  go_loopw [7, 13] (fun _ i wr => ∃ k : Nat, k ≤ n ∧ i = .int .i64 k ∧ Hid (But (fun i => i = R + 1 + 1) W0 wr ∧ (∃ av' cap', FrB wr (R + 1 + 1) ((ps.take k).foldl (fun g p => p.drop g) { f with k := 0 }) av' cap') ∧ (ps.take k).all (fun p => p.right f) = true)) (fun _ i _ => n - (intOf i).toNat)
  case atStart => exact ⟨0, by omega, rfl, But.refl _ _, ⟨av, cap, H2.out⟩, rfl⟩
  case round =>
    obtain ⟨k, hk, rfl, HI⟩ := hrel
    by_cases hlt : k < n
    · have hkl : k < ps.length := by rw [Hn.out]; exact hlt
      obtain ⟨kb, ⟨av', cap', hrest⟩, hall⟩ := HI.out
      have d0 := part_cell (HB0.out.but kb (by omega)) hkl
      have cr := right_p ps[k] f av cap (R + 1) wr ⟨H1.out.blk.but kb (by omega), ⟨H1.out.s.k, H1.out.s.ep, H1.out.s.sq, H1.out.s.cr, H1.out.s.fl, H1.out.s.et, H1.out.s.e, mks_but H1.out.s.ms Hlow.out kb⟩, H1.out.off⟩
      have hdt := drop_take (g := { f with k := 0 }) hkl
      have hnot := allows_not (f := f) hkl
      have halt := all_take (f := f) hkl hall
      obtain ⟨p, hp⟩ : ∃ p, p = ps[k] := ⟨_, rfl⟩
      rw [← hp] at d0 cr hdt hnot halt
      generalize (ps.take k).foldl (fun g p => p.drop g) { f with k := 0 } = rest at hrest hdt
      have hme := right_of p
      have hen := right_enter p
      have CR := Lib.hid cr
      have HR := Lib.hid hrest
      have KB := Lib.hid kb
      have HDT := Lib.hid hdt
      have HNOT := Lib.hid hnot
      have HALT := Lib.hid halt
      clear cr hrest kb hdt hnot halt hall hp HI
      go_wp2_with fail
      refine CR.out.mono ?_
      rintro r w1 ⟨rfl, k1⟩
      have HR1 := Lib.hid (HR.out.kept k1)
      have KB1 := Lib.hid (KB.out.trans (Kept.but (S := fun i => i = R + 1 + 1) k1) (fun _ _ h => h))
      clear k1 hme hen CR HR KB d0
      cases hr : p.right f with
      | false =>
        have HX := Lib.hid (HNOT.out hr)
        have KT := Lib.hid (HKT.out _ KB1.out)
        clear hr
        go_wp2
        go_ret
        exact ⟨by rw [HX.out]; rfl, KT.out⟩
      | true =>
        have HAL := Lib.hid (HALT.out hr)
        have hme := drop_of p
        have hen := drop_enter p
        have CD := Lib.hid (drop_p p rest av' cap' (R + 1 + 1) w1 HR1.out)
        clear hr
        go_wp2_with fail
        refine CD.out.mono ?_
        rintro r w2 ⟨rfl, hfb, kb2⟩
        have HI2 : Hid (But (fun i => i = R + 1 + 1) W0 w2 ∧ (∃ av' cap', FrB w2 (R + 1 + 1) ((ps.take (k + 1)).foldl (fun g p => p.drop g) { f with k := 0 }) av' cap') ∧ (ps.take (k + 1)).all (fun p => p.right f) = true) := ⟨KB1.out.trans kb2 (fun _ _ h => h), by rw [HDT.out]; exact hfb, HAL.out⟩
        clear hfb kb2 hme hen CD HR1 KB1
        go_wp2
        go_roundw
        case rel => exact ⟨k + 1, by omega, by go_num, HI2⟩
        case measure => simp [intOf]; omega
    · obtain rfl : k = n := by omega
      obtain ⟨kb, ⟨av', cap', hrest⟩, hall⟩ := HI.out
      rw [List.take_of_length_le (by rw [Hn.out]; exact Nat.le_refl _)] at hrest hall
      have HX : Hid (Fr.allows ps f = Fr.same (ps.foldl (fun g p => p.drop g) { f with k := 0 }) .zero) := by
        show _ = _
        unfold Fr.allows
        rw [hall]
        rfl
      generalize ps.foldl (fun g p => p.drop g) { f with k := 0 } = rest at hrest HX
      have CS := Lib.hid (same_fr rest .zero av' none cap' 0 wr hrest.s.ms (MkS.nil wr))
      have KT := Lib.hid (HKT.out _ kb)
      have hbl := hrest.blk
      have c0 : wr.cell? ⟨R + 1 + 1, 0, none⟩ = some (.int .i64 rest.k) := cell_of hbl 0 rfl
      have c1 : wr.cell? ⟨R + 1 + 1, 1, none⟩ = some (.int .i64 rest.ep) := cell_of hbl 1 rfl
      have c2 : wr.cell? ⟨R + 1 + 1, 2, none⟩ = some (.int .i64 rest.sq) := cell_of hbl 2 rfl
      have c3 : wr.cell? ⟨R + 1 + 1, 3, none⟩ = some (.int .i64 rest.cr) := cell_of hbl 3 rfl
      have c4 : wr.cell? ⟨R + 1 + 1, 4, none⟩ = some (.bool rest.on) := cell_of hbl 4 rfl
      have c5 : wr.cell? ⟨R + 1 + 1, 5, none⟩ = some (.string rest.fl) := cell_of hbl 5 rfl
      have c6 : wr.cell? ⟨R + 1 + 1, 6, none⟩ = some (.int .i64 rest.e.o) := cell_of hbl 6 rfl
      have c7 : wr.cell? ⟨R + 1 + 1, 7, none⟩ = some (.int .i64 rest.e.s) := cell_of hbl 7 rfl
      have c8 : wr.cell? ⟨R + 1 + 1, 8, none⟩ = some (.string rest.e.t) := cell_of hbl 8 rfl
      have c9 : wr.cell? ⟨R + 1 + 1, 9, none⟩ = some (.string rest.e.l) := cell_of hbl 9 rfl
      have c10 : wr.cell? ⟨R + 1 + 1, 10, none⟩ = some (.int .i64 rest.e.d) := cell_of hbl 10 rfl
      have c11 : wr.cell? ⟨R + 1 + 1, 11, none⟩ = some (.slice av' rest.ms.length cap') := cell_of hbl 11 rfl
      unfold frv frc at CS
      simp only [Fr.F.zero, Ev.E.zero, List.length_nil] at CS
      clear kb hrest hall hbl HI
      go_wp2_with fail
      refine CS.out.mono ?_
      rintro r w3 ⟨rfl, k3⟩
      have KT3 := Lib.hid (KT.out.trans k3)
      clear c0 c1 c2 c3 c4 c5 c6 c7 c8 c9 c10 c11 k3 CS
      go_wp2
      go_ret
      exact ⟨by rw [HX.out]; rfl, KT3.out⟩
end Go.Proofs.YtlfmpoinjbmjoaaGreatDoor
