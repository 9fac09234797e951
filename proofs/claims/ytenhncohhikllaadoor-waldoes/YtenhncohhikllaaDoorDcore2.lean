/-
  The walks of a disk's calls: what stays, units, a crash, a copy, and the two writes.
-/
import Derived.Test.YtenhncohhikllaaDoorDcore
import Derived.Deep.DeepCutAuto
namespace Go.Proofs.YtenhncohhikllaaDoor
open Go.ChangeShapes Go.WideShapes Go.ChangeAt Go.RowKit

/-- an element of a row of single cells -/
theorem OffV.at1 {et : TypeId} {w : World} {base : Nat} {a : Option Addr} {n cap : Nat} {xs : List Value} (h : OffV et 1 w base (.slice a n cap) n xs) {k : Nat} (hk : k < n) :
    ∃ g off y, a = some ⟨g, off, none⟩ ∧ n ≤ cap ∧ cap ≤ maxLen ∧ xs[k]? = some y ∧ w.cell? ⟨g, off + k, none⟩ = some y := by
  obtain ⟨h0, _, h⟩ := h
  have hl : k < xs.length := by omega
  rcases h with ⟨_, h0⟩ | ⟨g, off, cap', cur, e, h2, h3, h4, hg, h5, h6⟩
  · omega
  · cases e
    exact ⟨g, off, xs[k], rfl, h2, h3, List.getElem?_eq_getElem hl, by simp [World.cell?, hg, h6 k _ (List.getElem?_eq_getElem hl)]⟩
/-- the write at a place of a disk's row -/
theorem Dsk.at {w : World} {base b : Nat} {K : Dk.Fl} {a : Option Addr} {n cap : Nat} {ws : List Dk.W} (h : Dsk w base b K (.slice a n cap) ws) {k : Nat} (hk : k < ws.length) :
    n = ws.length ∧ ∃ g off, a = some ⟨g, off, none⟩ ∧ n ≤ cap ∧ cap ≤ maxLen ∧ w.cell? ⟨g, off + k, none⟩ = some (.iface (wt ws[k]) (wp ws[k])) := by
  obtain ⟨a', c', e⟩ := h.row.form
  cases e
  obtain ⟨g, off, y, e1, e2, e3, e4, e5⟩ := h.row.at1 hk
  rw [List.getElem?_map, List.getElem?_eq_getElem hk] at e4
  cases e4
  exact ⟨rfl, g, off, e1, e2, e3, e5⟩

set_option maxHeartbeats 400000 in
theorem kept_disk {b : Nat} {base : Nat} {K : Dk.Fl} {v : Value} {ws : List Dk.W} (f : Int) (w : World) (h : Dsk w base b K v ws) :
    Calls Tryd.prog 43 #[.pointer (some ⟨b, 0, none⟩), .int .i64 f] w fun e w' => e = .returned (.string (if 0 ≤ f ∧ f < 4 then K f.toNat else ⟨#[]⟩)) ∧ Kept w w' := by
  have HS : Hid (∀ i, (K i).size ≤ 65536) := fun i => h.fits.base i
  obtain ⟨c0, c1, c2, c3, _, _, _, _, _, _⟩ := dcell h.blk
  clear h
  have EF : Hid (flv K = .agg #[.string (K 0), .string (K 1), .string (K 2), .string (K 3)]) := Lib.hid rfl
  by_cases hf : 0 ≤ f ∧ f < 4
  · obtain ⟨k, rfl⟩ : ∃ k : Nat, f = (k : Int) := ⟨f.toNat, by omega⟩
    have hk : k < 4 := by omega
    rw [if_pos hf, Int.toNat_natCast]
    clear hf
    go_enter Tryd.func43, Tryd.ntmps43
    go_wp2_with fail
    rw [← EF.out]
    refine (read_file K k _ hk (Nat.le_trans (HS.out k) (by decide))).mono ?_
    rintro e w1 ⟨rfl, k1⟩
    go_wp2
    go_ret
    exact ⟨rfl, k1⟩
  · rw [if_neg hf]
    have HF := Lib.hid hf
    clear hf
    go_enter Tryd.func43, Tryd.ntmps43
    go_wp2_with fail
    rw [← EF.out]
    refine (read_none K f _ HF.out).mono ?_
    rintro e w1 ⟨rfl, k1⟩
    go_wp2
    go_ret
    exact ⟨rfl, k1⟩

set_option maxHeartbeats 1000000 in
theorem units_disk {b : Nat} {base : Nat} {K : Dk.Fl} {v : Value} {ws : List Dk.W} (w : World) (h : Dsk w base b K v ws) :
    Calls Tryd.prog 29 #[.pointer (some ⟨b, 0, none⟩)] w fun e w' => e = .returned (.int .i64 (Dk.total ws)) ∧ Kept w w' := by
  obtain ⟨a, cap, rfl⟩ := h.row.form
  have c8 := (dcell h.blk).2.2.2.2.2.2.2.2.1
  have H := Lib.hid h
  have hfew := h.few
  have hsm := h.small
  clear h
  obtain ⟨n, hn⟩ : ∃ n, n = ws.length := ⟨_, rfl⟩
  rw [← hn] at c8 hfew H
  have Hn := Lib.hid hn
  clear hn
  go_enter Tryd.func29, Tryd.ntmps29
  go_wp2
  go_loopw [3, 11] (fun s i wr => ∃ k : Nat, k ≤ n ∧ i = .int .i64 k ∧ s = .int .i64 (Dk.total (ws.take k)) ∧ Kept w wr) (fun _ i _ => n - (intOf i).toNat)
  case atStart => exact ⟨0, Nat.zero_le _, rfl, rfl, Kept.refl _⟩
  case round =>
    obtain ⟨k, hk, rfl, rfl, kr⟩ := hrel
    have KR := Lib.hid kr
    clear kr
    by_cases hlt : k < n
    · have hkl : k < ws.length := by rw [← Hn.out]; exact hlt
      obtain ⟨e0, g, off, rfl, _, hcm, hc⟩ := (H.out.kept KR.out).at hkl
      clear e0
      unfold maxLen at hcm
      have Hs := (H.out.ok _ (List.getElem_mem hkl)).2
      have Ht : Hid (Dk.total (ws.take k) + Dk.units ws[k] = Dk.total (ws.take (k + 1))) := by
        show _ = _
        rw [Dk.take_snoc hkl, Dk.total_snoc]
      have hle := Dk.total_take_le ws (k + 1)
      rw [← Ht.out] at hle
      generalize ws[k] = x at hc Hs Ht hle
      generalize Dk.total (ws.take k) = T at Ht hle ⊢
      have hme := units_of x
      have hen := units_enter x
      go_wp2_with fail
      refine (units_any x _ Hs).mono ?_
      rintro e w1 ⟨rfl, k1⟩
      have K1 := Lib.hid (KR.out.trans k1)
      clear k1 KR hc hme hen
      go_wp2
      go_roundw
      case rel => exact ⟨k + 1, by omega, by go_num, by rw [← Ht.out]; go_num, K1.out⟩
      case measure => simp [intOf]; omega
    · have hkk : k = n := by omega
      subst hkk
      have e : ws.take k = ws := by rw [Hn.out, List.take_length]
      rw [e]
      go_wp2
      go_ret
      exact ⟨rfl, KR.out⟩

/-- a disk's files, crashed -/
theorem crash_len (n : Nat) (t : Nat) : min n (t : Nat) ≤ t := Nat.min_le_right _ _

set_option maxHeartbeats 2000000 in
set_option maxRecDepth 100000 in
theorem crash_disk {b : Nat} {base : Nat} {K : Dk.Fl} {v : Value} {ws : List Dk.W} (u : Int) (w : World) (_u0 : -9223372036854775808 ≤ u) (_u1 : u ≤ 9223372036854775807) (h : Dsk w base b K v ws) :
    Calls Tryd.prog 22 #[.pointer (some ⟨b, 0, none⟩), .int .i64 u] w fun e w' => e = .returned (.int .i64 (min u.toNat (Dk.total ws) : Nat)) ∧ Dsk w' base b (Dk.after K ws u.toNat) (.slice none 0 0) [] ∧ But (fun i => i = b) w w' := by
  obtain ⟨a, cap, rfl⟩ := h.row.form
  obtain ⟨c0, c1, c2, c3, _, _, _, _, c8, _⟩ := dcell h.blk
  have H := Lib.hid h
  have hfew := h.few
  have hsm := h.small
  have hb : b < w.heap.size := heap_lt h.blk
  clear h
  obtain ⟨n, hn⟩ : ∃ n, n = ws.length := ⟨_, rfl⟩
  rw [← hn] at c8 hfew H
  have Hn := Lib.hid hn
  clear hn
  obtain ⟨U, hU⟩ : ∃ U, U = u.toNat := ⟨_, rfl⟩
  have hmax : max u 0 = (U : Int) := by omega
  have HU := Lib.hid hU
  clear hU
  rw [← HU.out]
  have hUb : U ≤ 9223372036854775807 := by omega
  go_enter Tryd.func22, Tryd.ntmps22
  go_wp2
  obtain ⟨W1, hW1⟩ : ∃ W1, W1 = w.alloc (.cells #[.string (K 0), .string (K 1), .string (K 2), .string (K 3)] 58) := ⟨_, rfl⟩
  have k01 : Kept w W1 := by rw [hW1]; exact (Kept.refl w).alloc _
  have e1 : W1.heap[w.heap.size]? = some (.cells #[.string (K 0), .string (K 1), .string (K 2), .string (K 3)] 58 (0, 0)) := by rw [hW1]; exact heap_alloc_new w _
  rw [← hW1]
  have K01 := Lib.hid k01
  have E1 := Lib.hid e1
  clear k01 e1 hW1 c0 c1 c2 c3 c8
  go_loopw [6, 19] (fun s i wr => ∃ k : Nat, k ≤ n ∧ i = .int .i64 k ∧ s = .int .i64 (min U (Dk.total (ws.take k)) : Nat) ∧ Hid (wr.heap[w.heap.size]? = some (.cells #[.string (Dk.after K (ws.take k) U 0), .string (Dk.after K (ws.take k) U 1), .string (Dk.after K (ws.take k) U 2), .string (Dk.after K (ws.take k) U 3)] 58 (0, 0)) ∧ But (fun i => i = w.heap.size) W1 wr)) (fun _ i _ => n - (intOf i).toNat)
  case atStart => exact ⟨0, Nat.zero_le _, rfl, by simp [Dk.total], E1.out, But.refl _ _⟩
  case round =>
    obtain ⟨k, hk, rfl, rfl, HR⟩ := hrel
    have KWR : Hid (Kept w wr) := But.after K01.out HR.out.2 fun i hi e => by omega
    by_cases hlt : k < n
    · have hkl : k < ws.length := by rw [← Hn.out]; exact hlt
      obtain ⟨e0, g, off, rfl, _, hcm, hc⟩ := (H.out.kept KWR.out).at hkl
      clear e0
      unfold maxLen at hcm
      have Hs := (H.out.ok _ (List.getElem_mem hkl)).2
      have Hfl := (H.out.ok _ (List.getElem_mem hkl)).1
      have hsn : Hid (Dk.after K (ws.take (k + 1)) U = Dk.put (Dk.after K (ws.take k) U) ws[k] (min (Dk.units ws[k]) (U - Dk.total (ws.take k)))) := by
        show _ = _
        rw [Dk.take_snoc hkl, Dk.after_snoc]
      have Ht : Hid (Dk.total (ws.take k) + Dk.units ws[k] = Dk.total (ws.take (k + 1))) := by
        show _ = _
        rw [Dk.take_snoc hkl, Dk.total_snoc]
      have hle := Dk.total_take_le ws (k + 1)
      rw [← Ht.out] at hle
      have hsz := (H.out.fits.take k) U ws[k].file
      have hux : Dk.units ws[k] ≤ 65536 := by unfold Dk.units; split <;> omega
      generalize ws[k] = x at hc Hs Hfl hsn Ht hle hsz hux
      generalize Dk.after K (ws.take k) U = A at hsn hsz HR
      generalize Dk.total (ws.take k) = T at Ht hsn hle ⊢
      have d0 : wr.cell? ⟨w.heap.size, 0, none⟩ = some (.string (A 0)) := by simp [World.cell?, HR.out.1]
      have d1 : wr.cell? ⟨w.heap.size, 1, none⟩ = some (.string (A 1)) := by simp [World.cell?, HR.out.1]
      have d2 : wr.cell? ⟨w.heap.size, 2, none⟩ = some (.string (A 2)) := by simp [World.cell?, HR.out.1]
      have d3 : wr.cell? ⟨w.heap.size, 3, none⟩ = some (.string (A 3)) := by simp [World.cell?, HR.out.1]
      have hme := units_of x
      have hen := units_enter x
      go_wp2_with fail
      refine (units_any x _ Hs).mono ?_
      rintro e w1 ⟨rfl, k1⟩
      have hB1 := (Below.block k1 _ (heap_lt HR.out.1)).trans HR.out.1
      have B1 : Hid (But (fun i => i = w.heap.size) W1 w1) := HR.out.2.trans k1.but fun _ _ h => (h : False).elim
      clear k1 hc hme hen d0 d1 d2 d3
      have d0 : w1.cell? ⟨w.heap.size, 0, none⟩ = some (.string (A 0)) := by simp [World.cell?, hB1]
      have d1 : w1.cell? ⟨w.heap.size, 1, none⟩ = some (.string (A 1)) := by simp [World.cell?, hB1]
      have d2 : w1.cell? ⟨w.heap.size, 2, none⟩ = some (.string (A 2)) := by simp [World.cell?, hB1]
      have d3 : w1.cell? ⟨w.heap.size, 3, none⟩ = some (.string (A 3)) := by simp [World.cell?, hB1]
      have HB1 := Lib.hid hB1
      clear hB1
      have EF : Hid (flv A = .agg #[.string (A 0), .string (A 1), .string (A 2), .string (A 3)]) := Lib.hid rfl
      go_wp2_with fail
      have em : min ((Dk.units x : Nat) : Int) ((U : Int) - ((min U T : Nat) : Int)) = ((min (Dk.units x) (U - T) : Nat) : Int) := by omega
      rw [em, ← EF.out]
      clear em
      have hm1 : min (Dk.units x) (U - T) ≤ Dk.units x := Nat.min_le_left _ _
      have hm2 : Hid (min U T + min (Dk.units x) (U - T) = min U (T + Dk.units x)) := by show _ = _; omega
      rw [Ht.out] at hm2
      generalize min (Dk.units x) (U - T) = m at hm1 hm2 hsn ⊢
      generalize hMT : min U T = mt at hm2 ⊢
      have hmt : mt ≤ T := by rw [← hMT]; exact Nat.min_le_right _ _
      clear hMT
      refine (with_any A x m _ Hfl hm1 (by omega)).mono ?_
      rintro e w2 ⟨rfl, k2⟩
      have hB2 := (Below.block k2 _ (heap_lt HB1.out)).trans HB1.out
      have B2 : But (fun i => i = w.heap.size) W1 w2 := B1.out.trans k2.but fun _ _ h => (h : False).elim
      rw [← hsn.out]
      clear k2 d0 d1 d2 d3 HR KWR B1 HB1
      generalize hA' : Dk.after K (ws.take (k + 1)) U = A' at hsn ⊢
      have HA' := Lib.hid hA'
      clear hA'
      have st := sets_one (sets_one (sets_one (sets_one ⟨hB2, B2⟩ 0 (.string (A' 0))) 1 (.string (A' 1))) 2 (.string (A' 2))) 3 (.string (A' 3))
      have ST := Lib.hid st
      clear st B2
      have f0 : ∀ i, w2.frozen? ⟨w.heap.size, i, none⟩ = false := fun i => by simp [World.frozen?, hB2]
      have d0 : w2.cell? ⟨w.heap.size, 0, none⟩ = some (.string (A 0)) := by simp [World.cell?, hB2]
      have d1 : w2.cell? ⟨w.heap.size, 1, none⟩ = some (.string (A 1)) := by simp [World.cell?, hB2]
      have d2 : w2.cell? ⟨w.heap.size, 2, none⟩ = some (.string (A 2)) := by simp [World.cell?, hB2]
      have d3 : w2.cell? ⟨w.heap.size, 3, none⟩ = some (.string (A 3)) := by simp [World.cell?, hB2]
      clear hB2
      unfold flv
      go_wp2
      go_roundw
      case rel => exact ⟨k + 1, by omega, by go_num, by rw [← hm2.out]; go_num, by
                    rw [HA'.out]
                    have := ST.out
                    simp at this
                    exact this⟩
      case measure => simp [intOf]; omega
    · have hkk : k = n := by omega
      subst hkk
      have e : ws.take k = ws := by rw [Hn.out, List.take_length]
      rw [e] at HR ⊢
      obtain ⟨h1, h2⟩ := HR.out
      generalize hA : Dk.after K ws U = A at h1 HR ⊢
      have HA := Lib.hid hA
      have d0 : wr.cell? ⟨w.heap.size, 0, none⟩ = some (.string (A 0)) := by simp [World.cell?, h1]
      have d1 : wr.cell? ⟨w.heap.size, 1, none⟩ = some (.string (A 1)) := by simp [World.cell?, h1]
      have d2 : wr.cell? ⟨w.heap.size, 2, none⟩ = some (.string (A 2)) := by simp [World.cell?, h1]
      have d3 : wr.cell? ⟨w.heap.size, 3, none⟩ = some (.string (A 3)) := by simp [World.cell?, h1]
      have hb' := (Below.block KWR.out _ hb).trans H.out.blk
      have CS := Lib.hid (settle_disk A wr K _ _ hb')
      unfold flv at CS
      clear h1 h2 HR hA hb' e
      generalize hmt : min U (Dk.total ws) = mt
      have HMT := Lib.hid hmt
      clear hmt
      go_wp2_with fail
      refine CS.out.mono ?_
      rintro e w2 ⟨rfl, g1, g2⟩
      go_wp2
      go_ret
      refine ⟨by rw [HMT.out]; rfl, ?_, KWR.out.but.trans g2 fun _ _ h => h⟩
      have hs := (H.out.kept KWR.out).settled (w' := w2) U
      rw [HA.out] at hs ⊢
      exact hs g1

/-- slices.Clone of a row of writes -/
theorem qnil (a : Option Addr) (n c : Nat) (w : World) : (binOp .eql 59 (.slice a n c) (.slice none 0 0)).run Tryd.prog w = .ok (.bool a.isNone) w := Lib.run_eql_slice_nil w _ _ a n c 0 0 Tryd.underlying59
set_option maxHeartbeats 400000 in
theorem clone_row {base : Nat} {v : Value} {n : Nat} {xs : List Value} (w : World) (h : OffV 85 1 w base v n xs) (hn : n ≤ 1000000) :
    Calls Tryd.prog 69 #[v] w fun e w' => ∃ v', e = .returned v' ∧ OffV 85 1 w' w.heap.size v' n xs ∧ Kept w w' := by
  obtain ⟨a, cap, rfl⟩ := h.form
  have q := qnil a n cap
  have H := Lib.hid h
  cases a with
  | none =>
    obtain ⟨h0, _, h⟩ := h
    rcases h with ⟨e, e0⟩ | ⟨g, off, cap', cur, e, _⟩
    · cases e
      obtain rfl : xs = [] := List.eq_nil_of_length_eq_zero (by omega)
      clear h0 hn
      go_enter Tryd.func69, Tryd.ntmps69
      go_wp2
      go_ret
      exact ⟨_, rfl, OffV.nil _ _ _ _, Kept.refl _⟩
    · cases e
  | some a =>
    clear h
    have o0 : OffV 85 1 (w.alloc (.cells #[] 85)) w.heap.size (.slice (some ⟨w.heap.size, 0, none⟩) 0 0) 0 [] :=
      ⟨rfl, by simp, .inr ⟨w.heap.size, 0, 0, #[], rfl, Nat.le_refl _, Nat.zero_le _, Nat.le_refl _, heap_alloc_new w _, Nat.le_refl _, by simp⟩⟩
    have O0 := Lib.hid o0
    clear o0
    go_enter Tryd.func69, Tryd.ntmps69
    go_wp2_with (refine wp_rapp rowW (base := w.heap.size) (n := 0) (m := n) (xs := []) (ys := xs) O0.out ((H.out.kept ((Kept.refl w).alloc _)).src) (by omega) (by rw [World.size_alloc]; omega) rfl _ _ rfl rfl rfl ?_
                 intro v' w7 o7 g7 b7 _)
    go_ret
    rw [Nat.zero_add, List.nil_append] at o7
    refine ⟨_, rfl, o7, But.after ((Kept.refl w).alloc (.cells #[] 85)) b7 fun i hi e => ?_⟩
    simp [Value.ownBlock] at e
    omega
end Go.Proofs.YtenhncohhikllaaDoor
