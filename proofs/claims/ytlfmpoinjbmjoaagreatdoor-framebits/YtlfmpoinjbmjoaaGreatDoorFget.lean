/-
  The walk of frame.Get.
-/
import Derived.Test.YtlfmpoinjbmjoaaGreatDoorFkof
namespace Go.Proofs.YtlfmpoinjbmjoaaGreatDoor
open Go.ChangeShapes Go.WideShapes Go.ChangeAt Go.RowKit

set_option maxHeartbeats 400000 in
set_option maxRecDepth 100000 in
theorem frright_any (f : Fr.F) (av : Option Addr) (cap : Nat) (w : World) (hf : FrS w f av cap) :
    Calls Tryz.prog 10 #[frv f av cap] w fun r w' => r = .returned (.bool (Fr.right f)) ∧ Kept w w' := by
  have HC : Hid (∀ w', Kept w w' → Calls Tryz.prog 24 #[frv f av cap] w' fun r w'' => (∃ nm p l c, r = .returned (.tuple #[.agg #[.string nm, .slice p l c], .bool (Fr.right f)]) ∧ (Fr.right f = true → KV w'' (f.k - 1).toNat (.agg #[.string nm, .slice p l c]))) ∧ Kept w' w'') := fun w' k => kindOf_any f av cap w' (hf.kept k)
  clear hf
  unfold frv frc at HC ⊢
  go_enter Tryz.func10, Tryz.ntmps10
  go_wp2_with fail
  refine (HC.out _ ((Kept.refl w).alloc _)).mono ?_
  rintro r w1 ⟨⟨nm, p, l, c, rfl, _⟩, k1⟩
  have hlt1 : w.heap.size < w1.heap.size := Nat.lt_of_lt_of_le (by simp) k1.size
  have K1 := Lib.hid (((Kept.refl w).alloc _).trans k1)
  clear k1 HC
  go_wp2
  go_ret
  exact ⟨rfl, K1.out.alloc _⟩

theorem put1_big (p : Fr.P) (f : Fr.F) (h : p.right f = true) (ht : f.e.t.size ≤ 65536) (hf : f.fl.size ≤ 65536) : (p.put f).length ≤ 70000 := by
  cases p with
  | ep => have := Vn.vsz_pos f.ep.toNat; simp only [Fr.P.put, Vn.vput_length]; omega
  | sq n => have := Vn.vsz_pos f.sq.toNat; simp only [Fr.P.put, Vn.vput_length]; omega
  | cr => have := Vn.vsz_pos f.cr.toNat; simp only [Fr.P.put, Vn.vput_length]; omega
  | ms =>
    simp only [Fr.P.right] at h
    have h1 := Fr.mits_len f.ms
    have h2 := ((Ev.sorted_iff _).1 h).1
    have h3 := Vn.vsz_pos f.ms.length
    simp only [Fr.P.put, Ev.mput, if_pos h, Ev.mbytes, List.length_append, Vn.vput_length]
    omega
  | ev =>
    simp only [Fr.P.right] at h
    have h1 := (Ev.right_iff _).1 h
    have hl1 := size_len f.e.t
    have hl2 := size_len f.e.l
    have z1 := Vn.vsz_pos f.e.o.toNat
    have z2 := Vn.vsz_pos f.e.s.toNat
    have z3 := Vn.vsz_pos f.e.d.toNat
    have z4 := Vn.vsz_pos f.e.t.data.toList.length
    have z5 := Vn.vsz_pos f.e.l.data.toList.length
    simp only [Fr.P.put, Ev.put, if_pos h, Ev.bytes, Ev.its, List.flatMap_cons, List.flatMap_nil, List.length_append, Ev.iput, Vn.vput_length, List.length_nil]
    omega
  | on => simp only [Fr.P.put]; split <;> simp
  | fl =>
    have hl1 := size_len f.fl
    have z4 := Vn.vsz_pos f.fl.data.toList.length
    simp only [Fr.P.put, List.length_append, Vn.vput_length]
    omega
theorem flat_take {ps : List Fr.P} {f : Fr.F} {k : Nat} (hk : k < ps.length) : (ps.take (k + 1)).flatMap (fun p => p.put f) = (ps.take k).flatMap (fun p => p.put f) ++ ps[k].put f := by
  rw [List.take_succ_eq_append_getElem hk, List.flatMap_append]
  simp
theorem all_at {ps : List Fr.P} {f : Fr.F} {k : Nat} (hk : k < ps.length) (h : ps.all (fun p => p.right f) = true) : ps[k].right f = true := by
  rw [List.all_eq_true] at h
  exact h _ (List.getElem_mem hk)

set_option maxHeartbeats 1000000 in
set_option maxRecDepth 100000 in
theorem frput_any (f : Fr.F) (av : Option Addr) (cap : Nat) (w : World) (hf : FrS w f av cap) (hT : Tab w) :
    Calls Tryz.prog 12 #[frv f av cap] w fun r w' => r = .returned (str (Fr.put f)) ∧ Kept w w' := by
  have HF := Lib.hid hf
  have HT := Lib.hid hT
  have HC : Hid (∀ w', Kept w w' → Calls Tryz.prog 24 #[frv f av cap] w' fun r w'' => (∃ nm p l c, r = .returned (.tuple #[.agg #[.string nm, .slice p l c], .bool (Fr.right f)]) ∧ (Fr.right f = true → KV w'' (f.k - 1).toNat (.agg #[.string nm, .slice p l c]))) ∧ Kept w' w'') := fun w' k => kindOf_any f av cap w' (hf.kept k)
  clear hf hT
  unfold frv frc at HC ⊢
  go_enter Tryz.func12, Tryz.ntmps12
  go_wp2_with fail
  refine (HC.out _ ((Kept.refl w).alloc _)).mono ?_
  rintro r w1 ⟨⟨nm, p, l, c, rfl, hv⟩, k1⟩
  have hlt1 : w.heap.size < w1.heap.size := Nat.lt_of_lt_of_le (by simp) k1.size
  have b1 := (Blk.made w (frc f av cap) 26).kept k1
  have kw1 : Kept w w1 := ((Kept.refl w).alloc _).trans k1
  cases hr : Fr.right f with
  | false =>
    have HX : Hid (Fr.put f = []) := by show _ = _; rw [Fr.put, hr]; rfl
    have K1 := Lib.hid kw1
    clear hv k1 hr b1 kw1 HC
    go_wp2
    go_ret
    exact ⟨by rw [HX.out]; rfl, K1.out.alloc _⟩
  | true =>
    obtain ⟨b, hve, hb⟩ := hv hr
    simp only [Value.agg.injEq, Array.mk.injEq, List.cons.injEq, Value.string.injEq, Value.slice.injEq, and_true] at hve
    obtain ⟨rfl, rfl, rfl, rfl⟩ := hve
    have HX : Hid (Fr.put f = Ck.seal_ (Fr.inner f)) := by show _ = _; rw [Fr.put, hr]; rfl
    have hk := Fr.right_kind f hr
    have hps := (Fr.right_parts f hr).1
    have hin : Fr.inner f = Vn.vput f.k.toNat ++ (Fr.parts f.k).flatMap (fun p => p.put f) := rfl
    have hsq := Fr.parts_sq f.k
    rw [(kparts_has f.k hk).2.1] at hps hin hsq
    have hp3 := (kparts_has f.k hk).2.2
    obtain ⟨j, hj⟩ : ∃ j, j = (f.k - 1).toNat := ⟨_, rfl⟩
    rw [← hj] at hps hin hp3 hb hsq ⊢
    have hb' : Blk w1 b ((kparts j).map partv).toArray 54 := hb
    obtain ⟨ps, hpsd⟩ : ∃ ps, ps = kparts j := ⟨_, rfl⟩
    rw [← hpsd] at hps hin hp3 hb' hsq ⊢
    obtain ⟨n, hn⟩ : ∃ n, n = ps.length := ⟨_, rfl⟩
    rw [← hn] at hp3 ⊢
    generalize kname j = kn
    have h1 : FrB w1 w.heap.size f av cap := ⟨b1, HF.out.kept kw1, HF.out.ms.low _ (Nat.le_refl _)⟩
    have c0 : w1.cell? ⟨w.heap.size, 0, none⟩ = some (.int .i64 f.k) := cell_of b1 0 rfl
    have H1 := Lib.hid h1
    have HT1 := Lib.hid (HT.out.kept kw1)
    have HB := Lib.hid hb'
    have K1 := Lib.hid kw1
    have Hps := Lib.hid hps
    have Hin := Lib.hid hin
    have Hn := Lib.hid hn
    have Hsq := Lib.hid hsq
    have hblt := hb'.lt
    have hklo := hk.1
    have hkhi := hk.2
    have hu : IntKind.u64.wrap f.k = f.k := by simp [IntKind.wrap, IntKind.signed, IntKind.bits]; omega
    clear hv k1 hr b1 kw1 HC h1 hb hb' hps hin hn hpsd hj hk hsq
    go_wp2_with fail
    have bk := Blk.made w1 #[.string kn, .slice (some ⟨b, 0, none⟩) n n] 44
    have kx : Kept w1 (w1.alloc (.cells #[.string kn, .slice (some ⟨b, 0, none⟩) n n] 44)) := (Kept.refl w1).alloc _
    refine (put_any _ _ (by omega) (by omega) (HT1.out.kept kx)).mono ?_
    rintro r w2 ⟨rfl, k2⟩
    obtain ⟨P0, hP0, sP0, lP0⟩ := name_put f.k.toNat
    rw [hP0]
    have hz := Vn.vsz_pos f.k.toNat
    rw [← sP0] at hz
    have d0 := cell_of (bk.kept k2) 0 rfl
    have d1 := cell_of (bk.kept k2) 1 rfl
    have H2 := Lib.hid (H1.out.kept (kx.trans k2))
    have HT2 := Lib.hid (HT1.out.kept (kx.trans k2))
    have HB2 := Lib.hid (HB.out.kept (kx.trans k2))
    have K2 := Lib.hid (K1.out.trans (kx.trans k2))
    have LP0 := Lib.hid lP0
    clear hP0 sP0 lP0 bk kx k2 c0 H1 HT1 HB K1 hu
    go_wp2
    clear d0 d1
    go_loopw [5, 7, 22] (fun inn _ i wr => ∃ (k : Nat) (P : ByteArray), k ≤ n ∧ i = .int .i64 k ∧ inn = .string P ∧ P.size ≤ 9 + 70000 * k ∧ Hid (P.data.toList = Vn.vput f.k.toNat ++ (ps.take k).flatMap (fun p => p.put f)) ∧ Hid (Kept w2 wr)) (fun _ _ i _ => n - (intOf i).toNat)
    case atStart => exact ⟨0, P0, by omega, rfl, rfl, by omega, by show _ = _; rw [← toList_eq, LP0.out]; simp, Kept.refl _⟩
    case round =>
      obtain ⟨k, P, hk, rfl, rfl, hPs, HP, HK⟩ := hrel
      by_cases hlt : k < n
      · have hkl : k < ps.length := by rw [← Hn.out]; exact hlt
        have d0 := part_cell (HB2.out.kept HK.out) hkl
        have hpr := all_at hkl Hps.out
        have hbig := put1_big ps[k] f hpr HF.out.et HF.out.fl
        have hft := flat_take (f := f) hkl
        have cp := put_p ps[k] f av cap w.heap.size wr (H2.out.kept HK.out) hpr (fun n hn => Hsq.out n (by rw [← hn]; exact List.getElem_mem hkl)) (HT2.out.kept HK.out)
        obtain ⟨p, hp⟩ : ∃ p, p = ps[k] := ⟨_, rfl⟩
        rw [← hp] at d0 hbig hft cp
        obtain ⟨A, hA, sA, lA⟩ := name_row (p.put f)
        rw [hA] at cp
        rw [← sA] at hbig
        have hme := put_of p
        have hen := put_enter p
        have CP := Lib.hid cp
        have HFT := Lib.hid hft
        have LA := Lib.hid lA
        clear cp hft lA hA sA hp hpr
        go_wp2_with fail
        refine CP.out.mono ?_
        rintro r w3 ⟨rfl, k3⟩
        have HK3 := Lib.hid (HK.out.trans k3)
        clear k3 hme hen d0 CP
        go_wp2
        go_roundw
        case rel => exact ⟨k + 1, P ++ A, by omega, by go_num, rfl, by rw [ByteArray.size_append]; omega, by show _ = _; rw [ByteArray.data_append, Array.toList_append, HP.out, HFT.out, List.append_assoc, LA.out], HK3⟩
        case measure => simp [intOf]; omega
      · obtain rfl : k = n := by omega
        have HI : Hid (P.data.toList = Fr.inner f) := by
          show _ = _
          rw [HP.out, Hin.out, List.take_of_length_le (by rw [← Hn.out]; exact Nat.le_refl _)]
        have CS := Lib.hid (seal_any P wr (by omega) (HT2.out.kept HK.out))
        rw [HI.out] at CS
        obtain ⟨A, hA, _, _⟩ := name_row (Ck.seal_ (Fr.inner f))
        rw [hA] at CS
        have HA := Lib.hid hA
        clear hA
        go_wp2_with fail
        refine CS.out.mono ?_
        rintro r w3 ⟨rfl, k3⟩
        have KT := Lib.hid ((K2.out.trans HK.out).trans k3)
        clear k3 CS
        go_wp2
        go_ret
        exact ⟨by rw [HX.out, HA.out]; rfl, KT.out⟩
end Go.Proofs.YtlfmpoinjbmjoaaGreatDoor

namespace Go.Proofs.YtlfmpoinjbmjoaaGreatDoor
open Go.ChangeShapes Go.WideShapes Go.ChangeAt Go.RowKit

/-- a frame and an error as Get tells them -/
def FrRes (w : World) (x : Fr.F × Nat) (r : Ending) (w' : World) : Prop :=
  ∃ av cap, r = .returned (.tuple #[frv x.1 av cap, .int .i64 x.2]) ∧ FrS w' x.1 av cap ∧ Kept w w'
theorem frs_zero (w : World) : FrS w .zero none 0 := ⟨i64_zero, i64_zero, i64_zero, i64_zero, Nat.zero_le _, Nat.zero_le _, fit_zero, MkS.nil w⟩
theorem frRes_zero {w w' : World} {x : Fr.F × Nat} {e : Nat} (hx : x = (.zero, e)) (k : Kept w w') : FrRes w x (.returned (.tuple #[frv .zero none 0, .int .i64 e])) w' := by
  subst hx
  exact ⟨none, 0, rfl, frs_zero w', k⟩
/-- the cells of no frame -/
def zcs : Array Value := #[.int .i64 0, .int .i64 0, .int .i64 0, .int .i64 0, .bool false, .string ⟨#[]⟩, .int .i64 0, .int .i64 0, .string ⟨#[]⟩, .string ⟨#[]⟩, .int .i64 0, .slice none 0 0]
theorem ret_read (tmps : Array Value) (W : World) (R : Nat) (f : Fr.F) (av : Option Addr) (cap : Nat) (e : Int) (h2 : tmps[2]? = some (.pointer (some ⟨R, 0, none⟩))) (h3 : tmps[3]? = some (.int .i64 e)) (hb : Blk W R (frc f av cap) 26) :
    (results Tryz.f42 tmps).run Tryz.prog W = .ok (.tuple #[frv f av cap, .int .i64 e]) W := by
  have c0 : W.cell? ⟨R, 0, none⟩ = some (.int .i64 f.k) := cell_of hb 0 rfl
  have c1 : W.cell? ⟨R, 1, none⟩ = some (.int .i64 f.ep) := cell_of hb 1 rfl
  have c2 : W.cell? ⟨R, 2, none⟩ = some (.int .i64 f.sq) := cell_of hb 2 rfl
  have c3 : W.cell? ⟨R, 3, none⟩ = some (.int .i64 f.cr) := cell_of hb 3 rfl
  have c4 : W.cell? ⟨R, 4, none⟩ = some (.bool f.on) := cell_of hb 4 rfl
  have c5 : W.cell? ⟨R, 5, none⟩ = some (.string f.fl) := cell_of hb 5 rfl
  have c6 : W.cell? ⟨R, 6, none⟩ = some (.int .i64 f.e.o) := cell_of hb 6 rfl
  have c7 : W.cell? ⟨R, 7, none⟩ = some (.int .i64 f.e.s) := cell_of hb 7 rfl
  have c8 : W.cell? ⟨R, 8, none⟩ = some (.string f.e.t) := cell_of hb 8 rfl
  have c9 : W.cell? ⟨R, 9, none⟩ = some (.string f.e.l) := cell_of hb 9 rfl
  have c10 : W.cell? ⟨R, 10, none⟩ = some (.int .i64 f.e.d) := cell_of hb 10 rfl
  have c11 : W.cell? ⟨R, 11, none⟩ = some (.slice av f.ms.length cap) := cell_of hb 11 rfl
  simp [results, Tryz.f42, go_sem, h2, h3, frv, frc, c0, c1, c2, c3, c4, c5, c6, c7, c8, c9, c10, c11]
theorem fr_sets {w : World} {R : Nat} (hb : Blk w R zcs 26) (f : Fr.F) (av : Option Addr) (cap : Nat) : Blk ((((((((((((w.setCell ⟨R, 0, none⟩ (.int .i64 f.k)).setCell ⟨R, 1, none⟩ (.int .i64 f.ep)).setCell ⟨R, 2, none⟩ (.int .i64 f.sq)).setCell ⟨R, 3, none⟩ (.int .i64 f.cr)).setCell ⟨R, 4, none⟩ (.bool f.on)).setCell ⟨R, 5, none⟩ (.string f.fl)).setCell ⟨R, 6, none⟩ (.int .i64 f.e.o)).setCell ⟨R, 7, none⟩ (.int .i64 f.e.s)).setCell ⟨R, 8, none⟩ (.string f.e.t)).setCell ⟨R, 9, none⟩ (.string f.e.l)).setCell ⟨R, 10, none⟩ (.int .i64 f.e.d)).setCell ⟨R, 11, none⟩ (.slice av f.ms.length cap)) R (frc f av cap) 26 := by
  have h0 : Blk (w.setCell ⟨R, 0, none⟩ (.int .i64 f.k)) R #[.int .i64 f.k, .int .i64 0, .int .i64 0, .int .i64 0, .bool false, .string ⟨#[]⟩, .int .i64 0, .int .i64 0, .string ⟨#[]⟩, .string ⟨#[]⟩, .int .i64 0, .slice none 0 0] 26 := hb.set 0 (.int .i64 f.k)
  have h1 : Blk ((w.setCell ⟨R, 0, none⟩ (.int .i64 f.k)).setCell ⟨R, 1, none⟩ (.int .i64 f.ep)) R #[.int .i64 f.k, .int .i64 f.ep, .int .i64 0, .int .i64 0, .bool false, .string ⟨#[]⟩, .int .i64 0, .int .i64 0, .string ⟨#[]⟩, .string ⟨#[]⟩, .int .i64 0, .slice none 0 0] 26 := h0.set 1 (.int .i64 f.ep)
  have h2 : Blk (((w.setCell ⟨R, 0, none⟩ (.int .i64 f.k)).setCell ⟨R, 1, none⟩ (.int .i64 f.ep)).setCell ⟨R, 2, none⟩ (.int .i64 f.sq)) R #[.int .i64 f.k, .int .i64 f.ep, .int .i64 f.sq, .int .i64 0, .bool false, .string ⟨#[]⟩, .int .i64 0, .int .i64 0, .string ⟨#[]⟩, .string ⟨#[]⟩, .int .i64 0, .slice none 0 0] 26 := h1.set 2 (.int .i64 f.sq)
  have h3 : Blk ((((w.setCell ⟨R, 0, none⟩ (.int .i64 f.k)).setCell ⟨R, 1, none⟩ (.int .i64 f.ep)).setCell ⟨R, 2, none⟩ (.int .i64 f.sq)).setCell ⟨R, 3, none⟩ (.int .i64 f.cr)) R #[.int .i64 f.k, .int .i64 f.ep, .int .i64 f.sq, .int .i64 f.cr, .bool false, .string ⟨#[]⟩, .int .i64 0, .int .i64 0, .string ⟨#[]⟩, .string ⟨#[]⟩, .int .i64 0, .slice none 0 0] 26 := h2.set 3 (.int .i64 f.cr)
  have h4 : Blk (((((w.setCell ⟨R, 0, none⟩ (.int .i64 f.k)).setCell ⟨R, 1, none⟩ (.int .i64 f.ep)).setCell ⟨R, 2, none⟩ (.int .i64 f.sq)).setCell ⟨R, 3, none⟩ (.int .i64 f.cr)).setCell ⟨R, 4, none⟩ (.bool f.on)) R #[.int .i64 f.k, .int .i64 f.ep, .int .i64 f.sq, .int .i64 f.cr, .bool f.on, .string ⟨#[]⟩, .int .i64 0, .int .i64 0, .string ⟨#[]⟩, .string ⟨#[]⟩, .int .i64 0, .slice none 0 0] 26 := h3.set 4 (.bool f.on)
  have h5 : Blk ((((((w.setCell ⟨R, 0, none⟩ (.int .i64 f.k)).setCell ⟨R, 1, none⟩ (.int .i64 f.ep)).setCell ⟨R, 2, none⟩ (.int .i64 f.sq)).setCell ⟨R, 3, none⟩ (.int .i64 f.cr)).setCell ⟨R, 4, none⟩ (.bool f.on)).setCell ⟨R, 5, none⟩ (.string f.fl)) R #[.int .i64 f.k, .int .i64 f.ep, .int .i64 f.sq, .int .i64 f.cr, .bool f.on, .string f.fl, .int .i64 0, .int .i64 0, .string ⟨#[]⟩, .string ⟨#[]⟩, .int .i64 0, .slice none 0 0] 26 := h4.set 5 (.string f.fl)
  have h6 : Blk (((((((w.setCell ⟨R, 0, none⟩ (.int .i64 f.k)).setCell ⟨R, 1, none⟩ (.int .i64 f.ep)).setCell ⟨R, 2, none⟩ (.int .i64 f.sq)).setCell ⟨R, 3, none⟩ (.int .i64 f.cr)).setCell ⟨R, 4, none⟩ (.bool f.on)).setCell ⟨R, 5, none⟩ (.string f.fl)).setCell ⟨R, 6, none⟩ (.int .i64 f.e.o)) R #[.int .i64 f.k, .int .i64 f.ep, .int .i64 f.sq, .int .i64 f.cr, .bool f.on, .string f.fl, .int .i64 f.e.o, .int .i64 0, .string ⟨#[]⟩, .string ⟨#[]⟩, .int .i64 0, .slice none 0 0] 26 := h5.set 6 (.int .i64 f.e.o)
  have h7 : Blk ((((((((w.setCell ⟨R, 0, none⟩ (.int .i64 f.k)).setCell ⟨R, 1, none⟩ (.int .i64 f.ep)).setCell ⟨R, 2, none⟩ (.int .i64 f.sq)).setCell ⟨R, 3, none⟩ (.int .i64 f.cr)).setCell ⟨R, 4, none⟩ (.bool f.on)).setCell ⟨R, 5, none⟩ (.string f.fl)).setCell ⟨R, 6, none⟩ (.int .i64 f.e.o)).setCell ⟨R, 7, none⟩ (.int .i64 f.e.s)) R #[.int .i64 f.k, .int .i64 f.ep, .int .i64 f.sq, .int .i64 f.cr, .bool f.on, .string f.fl, .int .i64 f.e.o, .int .i64 f.e.s, .string ⟨#[]⟩, .string ⟨#[]⟩, .int .i64 0, .slice none 0 0] 26 := h6.set 7 (.int .i64 f.e.s)
  have h8 : Blk (((((((((w.setCell ⟨R, 0, none⟩ (.int .i64 f.k)).setCell ⟨R, 1, none⟩ (.int .i64 f.ep)).setCell ⟨R, 2, none⟩ (.int .i64 f.sq)).setCell ⟨R, 3, none⟩ (.int .i64 f.cr)).setCell ⟨R, 4, none⟩ (.bool f.on)).setCell ⟨R, 5, none⟩ (.string f.fl)).setCell ⟨R, 6, none⟩ (.int .i64 f.e.o)).setCell ⟨R, 7, none⟩ (.int .i64 f.e.s)).setCell ⟨R, 8, none⟩ (.string f.e.t)) R #[.int .i64 f.k, .int .i64 f.ep, .int .i64 f.sq, .int .i64 f.cr, .bool f.on, .string f.fl, .int .i64 f.e.o, .int .i64 f.e.s, .string f.e.t, .string ⟨#[]⟩, .int .i64 0, .slice none 0 0] 26 := h7.set 8 (.string f.e.t)
  have h9 : Blk ((((((((((w.setCell ⟨R, 0, none⟩ (.int .i64 f.k)).setCell ⟨R, 1, none⟩ (.int .i64 f.ep)).setCell ⟨R, 2, none⟩ (.int .i64 f.sq)).setCell ⟨R, 3, none⟩ (.int .i64 f.cr)).setCell ⟨R, 4, none⟩ (.bool f.on)).setCell ⟨R, 5, none⟩ (.string f.fl)).setCell ⟨R, 6, none⟩ (.int .i64 f.e.o)).setCell ⟨R, 7, none⟩ (.int .i64 f.e.s)).setCell ⟨R, 8, none⟩ (.string f.e.t)).setCell ⟨R, 9, none⟩ (.string f.e.l)) R #[.int .i64 f.k, .int .i64 f.ep, .int .i64 f.sq, .int .i64 f.cr, .bool f.on, .string f.fl, .int .i64 f.e.o, .int .i64 f.e.s, .string f.e.t, .string f.e.l, .int .i64 0, .slice none 0 0] 26 := h8.set 9 (.string f.e.l)
  have h10 : Blk (((((((((((w.setCell ⟨R, 0, none⟩ (.int .i64 f.k)).setCell ⟨R, 1, none⟩ (.int .i64 f.ep)).setCell ⟨R, 2, none⟩ (.int .i64 f.sq)).setCell ⟨R, 3, none⟩ (.int .i64 f.cr)).setCell ⟨R, 4, none⟩ (.bool f.on)).setCell ⟨R, 5, none⟩ (.string f.fl)).setCell ⟨R, 6, none⟩ (.int .i64 f.e.o)).setCell ⟨R, 7, none⟩ (.int .i64 f.e.s)).setCell ⟨R, 8, none⟩ (.string f.e.t)).setCell ⟨R, 9, none⟩ (.string f.e.l)).setCell ⟨R, 10, none⟩ (.int .i64 f.e.d)) R #[.int .i64 f.k, .int .i64 f.ep, .int .i64 f.sq, .int .i64 f.cr, .bool f.on, .string f.fl, .int .i64 f.e.o, .int .i64 f.e.s, .string f.e.t, .string f.e.l, .int .i64 f.e.d, .slice none 0 0] 26 := h9.set 10 (.int .i64 f.e.d)
  have h11 : Blk ((((((((((((w.setCell ⟨R, 0, none⟩ (.int .i64 f.k)).setCell ⟨R, 1, none⟩ (.int .i64 f.ep)).setCell ⟨R, 2, none⟩ (.int .i64 f.sq)).setCell ⟨R, 3, none⟩ (.int .i64 f.cr)).setCell ⟨R, 4, none⟩ (.bool f.on)).setCell ⟨R, 5, none⟩ (.string f.fl)).setCell ⟨R, 6, none⟩ (.int .i64 f.e.o)).setCell ⟨R, 7, none⟩ (.int .i64 f.e.s)).setCell ⟨R, 8, none⟩ (.string f.e.t)).setCell ⟨R, 9, none⟩ (.string f.e.l)).setCell ⟨R, 10, none⟩ (.int .i64 f.e.d)).setCell ⟨R, 11, none⟩ (.slice av f.ms.length cap)) R #[.int .i64 f.k, .int .i64 f.ep, .int .i64 f.sq, .int .i64 f.cr, .bool f.on, .string f.fl, .int .i64 f.e.o, .int .i64 f.e.s, .string f.e.t, .string f.e.l, .int .i64 f.e.d, .slice av f.ms.length cap] 26 := h10.set 11 (.slice av f.ms.length cap)
  exact h11
theorem fr_sets_kept {w0 w : World} {R : Nat} (k : Kept w0 w) (hR : w0.heap.size ≤ R) (v0 v1 v2 v3 v4 v5 v6 v7 v8 v9 v10 v11 : Value) : Kept w0 ((((((((((((w.setCell ⟨R, 0, none⟩ (v0)).setCell ⟨R, 1, none⟩ (v1)).setCell ⟨R, 2, none⟩ (v2)).setCell ⟨R, 3, none⟩ (v3)).setCell ⟨R, 4, none⟩ (v4)).setCell ⟨R, 5, none⟩ (v5)).setCell ⟨R, 6, none⟩ (v6)).setCell ⟨R, 7, none⟩ (v7)).setCell ⟨R, 8, none⟩ (v8)).setCell ⟨R, 9, none⟩ (v9)).setCell ⟨R, 10, none⟩ (v10)).setCell ⟨R, 11, none⟩ (v11)) := by
  have k0 := Below.setCell k (p := ⟨R, 0, none⟩) hR v0
  have k1 := Below.setCell k0 (p := ⟨R, 1, none⟩) hR v1
  have k2 := Below.setCell k1 (p := ⟨R, 2, none⟩) hR v2
  have k3 := Below.setCell k2 (p := ⟨R, 3, none⟩) hR v3
  have k4 := Below.setCell k3 (p := ⟨R, 4, none⟩) hR v4
  have k5 := Below.setCell k4 (p := ⟨R, 5, none⟩) hR v5
  have k6 := Below.setCell k5 (p := ⟨R, 6, none⟩) hR v6
  have k7 := Below.setCell k6 (p := ⟨R, 7, none⟩) hR v7
  have k8 := Below.setCell k7 (p := ⟨R, 8, none⟩) hR v8
  have k9 := Below.setCell k8 (p := ⟨R, 9, none⟩) hR v9
  have k10 := Below.setCell k9 (p := ⟨R, 10, none⟩) hR v10
  have k11 := Below.setCell k10 (p := ⟨R, 11, none⟩) hR v11
  exact k11

theorem frs_sets {w : World} {f : Fr.F} {av : Option Addr} {cap R : Nat} (h : FrS w f av cap) (hlow : f.ms = [] ∨ ∀ x, av = some x → x.block ≠ R) (v0 v1 v2 v3 v4 v5 v6 v7 v8 v9 v10 v11 : Value) : FrS ((((((((((((w.setCell ⟨R, 0, none⟩ (v0)).setCell ⟨R, 1, none⟩ (v1)).setCell ⟨R, 2, none⟩ (v2)).setCell ⟨R, 3, none⟩ (v3)).setCell ⟨R, 4, none⟩ (v4)).setCell ⟨R, 5, none⟩ (v5)).setCell ⟨R, 6, none⟩ (v6)).setCell ⟨R, 7, none⟩ (v7)).setCell ⟨R, 8, none⟩ (v8)).setCell ⟨R, 9, none⟩ (v9)).setCell ⟨R, 10, none⟩ (v10)).setCell ⟨R, 11, none⟩ (v11)) f av cap := by
  have m0 := mks_set h.ms hlow 0 v0
  have m1 := mks_set m0 hlow 1 v1
  have m2 := mks_set m1 hlow 2 v2
  have m3 := mks_set m2 hlow 3 v3
  have m4 := mks_set m3 hlow 4 v4
  have m5 := mks_set m4 hlow 5 v5
  have m6 := mks_set m5 hlow 6 v6
  have m7 := mks_set m6 hlow 7 v7
  have m8 := mks_set m7 hlow 8 v8
  have m9 := mks_set m8 hlow 9 v9
  have m10 := mks_set m9 hlow 10 v10
  have m11 := mks_set m10 hlow 11 v11
  exact ⟨h.k, h.ep, h.sq, h.cr, h.fl, h.et, h.e, m11⟩
theorem right_ms (F : Fr.F) (h : Fr.right F = true) : F.ms = [] ∨ Ev.sorted F.ms = true := by
  have hl := congrArg Fr.F.ms (Fr.lay_all F h)
  have hp := (Fr.right_parts F h).1
  rcases Fr.has_cases F.k with ⟨_, _, e⟩ | ⟨_, _, e⟩ | ⟨_, _, e⟩ | ⟨_, _, e⟩ | ⟨_, _, e⟩ | ⟨_, _, e⟩ | ⟨_, _, e⟩
  · right
    rw [e] at hp
    simp only [Fr.p1, List.all_cons, Bool.and_eq_true, Fr.P.right] at hp
    exact hp.2.1
  · right
    rw [e] at hp
    simp only [Fr.p2, List.all_cons, Bool.and_eq_true, Fr.P.right] at hp
    exact hp.2.2.1
  all_goals
    left
    rw [e] at hl
    simpa [Fr.p3, Fr.p4, Fr.p5, Fr.p6, Fr.P.lay, Fr.made, Fr.F.zero] using hl.symm
/-- marks that may be lie in no block of zeros -/
theorem marks_far {w : World} {av : Option Addr} {cap R : Nat} {ms : List Ev.M} (h : MkS w av cap ms) (hb : Blk w R zcs 26) (hs : ms = [] ∨ Ev.sorted ms = true) : ms = [] ∨ ∀ x, av = some x → x.block ≠ R := by
  rcases hs with h0 | hs
  · exact .inl h0
  rcases h.at_ with h0 | ⟨b, off, rfl, h2, h3⟩
  · exact .inl h0
  cases ms with
  | nil => exact .inl rfl
  | cons m r =>
    refine .inr fun x hx e => ?_
    cases hx
    simp only at e
    subst e
    have h1 := (h3 0 m rfl).2
    have hm := (Ev.srt_all _ 0 (Int.le_refl _) ((Ev.sorted_iff _).1 hs).2 m (by simp)).2.2.1
    rw [hb.cell] at h1
    have hz : ∀ (i : Nat) (x : Int), zcs[i]? = some (.int .i64 x) → x = 0 := by
      intro i x hx
      match i, hx with
      | 0, hx => simp [zcs] at hx; exact hx.symm
      | 1, hx => simp [zcs] at hx; exact hx.symm
      | 2, hx => simp [zcs] at hx; exact hx.symm
      | 3, hx => simp [zcs] at hx; exact hx.symm
      | 4, hx => simp [zcs] at hx
      | 5, hx => simp [zcs] at hx
      | 6, hx => simp [zcs] at hx; exact hx.symm
      | 7, hx => simp [zcs] at hx; exact hx.symm
      | 8, hx => simp [zcs] at hx
      | 9, hx => simp [zcs] at hx
      | 10, hx => simp [zcs] at hx; exact hx.symm
      | 11, hx => simp [zcs] at hx
      | i + 12, hx => simp [zcs] at hx
    have := hz _ _ h1
    omega
theorem gets_take {ps : List Fr.P} {l : List UInt8} {st : Fr.F × Nat × Nat} {k : Nat} (hk : k < ps.length) : Fr.gets (ps.take (k + 1)) l st = Fr.step l (Fr.gets (ps.take k) l st) ps[k] := by
  rw [List.take_succ_eq_append_getElem hk, Fr.gets, List.foldl_append]
  rfl
theorem gets_stop {ps : List Fr.P} {l : List UInt8} {st : Fr.F × Nat × Nat} {k : Nat} (h : (Fr.gets (ps.take k) l st).2.2 ≠ 0) : Fr.gets ps l st = Fr.gets (ps.take k) l st := by
  conv => lhs; rw [← List.take_append_drop k ps, Fr.gets, List.foldl_append]
  exact Fr.gets_bad l _ h (ps.drop k)
theorem p_get_le (p : Fr.P) (l : List UInt8) (a : Nat) (f : Fr.F) (ha : a ≤ l.length) : (p.get l a f).2.1 ≤ l.length ∧ (p.get l a f).2.2 ≤ 4 := by
  have hv := vget_le l a
  cases p with
  | ep => exact hv.2
  | sq n => exact hv.2
  | cr => exact hv.2
  | ms =>
    have h1 := Ev.mcut_le l a
    have key := Fr.mcut_got_at l a
    simp only [Fr.P.get]
    generalize Ev.mcut l a = x at h1 key ⊢
    obtain ⟨m, t, e⟩ := x
    simp only at h1 ⊢
    by_cases he : e = 0
    · subst he
      exact ⟨(key m t rfl).2.2.1, by omega⟩
    · rw [(h1.2.1 he).2]; exact ⟨Nat.zero_le _, h1.1⟩
  | ev =>
    have h1 := Ev.get_le l a
    have key := Fr.evget_got_at l a ha
    simp only [Fr.P.get]
    generalize Ev.get l a = x at h1 key ⊢
    obtain ⟨m, t, e⟩ := x
    simp only at h1 ⊢
    by_cases he : e = 0
    · subst he
      exact ⟨(key m t rfl).2.2.1, by omega⟩
    · rw [(h1.2 he).2]; exact ⟨Nat.zero_le _, h1.1⟩
  | on => exact Fr.onGet_le l a f
  | fl =>
    have := Ck.vcut_le l a
    exact ⟨this.2.1, this.2.2⟩
set_option maxHeartbeats 2000000 in
set_option maxRecDepth 100000 in
theorem read_any (s : ByteArray) (w : World) (hs : s.size ≤ 65536) (hT : Tab w) :
    Calls Tryz.prog 42 #[.string s] w (FrRes w (Fr.read s.data.toList)) := by
  have Hsl := Lib.hid (size_len s)
  have HT := Lib.hid hT
  clear hT
  have hrd : Fr.read s.data.toList = Fr.read s.data.toList := rfl
  conv at hrd => rhs; unfold Fr.read
  have hle := vget_le s.data.toList 0
  have hc0 := fun w' (k : Kept w w') => get_any s 0 w' (by unfold maxLen; omega) (by omega) (by omega) (HT.out.kept k)
  obtain ⟨⟨n, a, er⟩, hv⟩ : ∃ x, x = vget s.data.toList 0 := ⟨_, rfl⟩
  rw [← hv] at hrd hle hc0
  simp only at hrd hle
  unfold tup at hc0
  simp only at hc0
  obtain ⟨l1, l2, l3⟩ := hle
  rw [Hsl.out] at l2
  have Hrd := Lib.hid hrd
  have CG := Lib.hid hc0
  clear hrd hv hc0
  go_enter Tryz.func42, Tryz.ntmps42
  go_wp2_with fail
  refine (CG.out _ ((Kept.refl w).alloc _)).mono ?_
  rintro r w1 ⟨rfl, k1⟩
  have b1 : Blk w1 w.heap.size zcs 26 := (Blk.made w zcs 26).kept k1
  have kw1 : Kept w w1 := ((Kept.refl w).alloc _).trans k1
  have hlt1 := b1.lt
  obtain ⟨R, hR⟩ : ∃ R, R = w.heap.size := ⟨_, rfl⟩
  rw [← hR] at b1 hlt1 ⊢
  have HR := Lib.hid hR
  have B1 := Lib.hid b1
  have K1 := Lib.hid kw1
  clear k1 kw1 hR CG
  by_cases he : er = 0
  · subst he
    have hm : (min (n : Int) 7) = Fr.kindOf n := rfl
    have hm2 : 0 ≤ Fr.kindOf n ∧ Fr.kindOf n ≤ 7 := by unfold Fr.kindOf; omega
    have hrd := Hrd.out
    rw [if_neg (by simp)] at hrd
    have Hrd2 := Lib.hid hrd
    clear hrd Hrd b1
    have bf := Blk.made w1 (frc (Fr.made (Fr.kindOf n)) none 0) 26
    have kf : Kept w1 (w1.alloc (.cells (frc (Fr.made (Fr.kindOf n)) none 0) 26)) := (Kept.refl w1).alloc _
    unfold frc Fr.made at bf kf
    simp only [Fr.F.zero, Ev.E.zero, List.length_nil] at bf kf
    go_wp2_with fail
    generalize hW : w1.alloc _ = W at bf kf ⊢
    obtain ⟨G, hG⟩ : ∃ G, G = w1.heap.size := ⟨_, rfl⟩
    rw [← hG] at bf ⊢
    have hRG : R < G := by omega
    have hGW := bf.lt
    have BF : Hid (Blk W G (frc (Fr.made (Fr.kindOf n)) none 0) 26) := bf
    have KF := Lib.hid kf
    have BR := Lib.hid (B1.out.kept kf)
    have KWW := Lib.hid (K1.out.trans kf)
    clear bf kf hW hG B1 K1 hlt1
    have HM : Hid (min (n : Int) 7 = Fr.kindOf n) := hm
    have HM2 := Lib.hid hm2
    clear hm
    obtain ⟨kk, hkk⟩ : ∃ kk, kk = Fr.kindOf n := ⟨_, rfl⟩
    rw [← hkk] at Hrd2 BF hm2 ⊢
    have HKK := Lib.hid hkk
    clear hkk
    have key : ∀ w', Kept W w' → w'.cell? ⟨G, 0, none⟩ = some (.int .i64 kk) := fun w' k => cell_of (BF.out.kept k) 0 rfl
    have s0 := key W.drew ((Kept.refl W).drew)
    have KEY := Lib.hid key
    clear key
    rename_i K2 hK2
    by_cases hk : 1 ≤ kk ∧ kk ≤ 6
    · obtain ⟨j, hj⟩ : ∃ j, j = (kk - 1).toNat := ⟨_, rfl⟩
      have HP := Lib.hid (kparts_has kk hk)
      have HJ : Hid (kk = ((j + 1 : Nat) : Int) ∧ j < 6) := ⟨by omega, by omega⟩
      rw [← hj] at HP
      clear hk hj hm2
      have key2 : ∀ (g m b : Nat) (w2 : World), Kept W w2 → W.heap.size ≤ g → Blk w2 g #[.string (kname j), .slice (some ⟨b, 0, none⟩) (kparts j).length (kparts j).length] 44 → Blk w2 b (kcells j) 54 → K2
          { tmps := #[Value.string s, undef, Value.pointer (some ⟨R, 0, none⟩), Value.int IntKind.i64 0, Value.int IntKind.u64 ↑n, Value.int IntKind.i64 ↑a, Value.int IntKind.i64 0, Value.pointer (some ⟨G, 0, none⟩), .pointer (some ⟨g, 0, none⟩), .bool true, undef, undef, Value.tuple #[Value.int IntKind.u64 ↑n, Value.int IntKind.i64 ↑a, Value.int IntKind.i64 0], Value.string s, Value.tuple #[Value.int IntKind.u64 ↑n, Value.int IntKind.i64 ↑a, Value.int IntKind.i64 0], Value.int IntKind.u64 ↑n, Value.int IntKind.i64 ↑a, Value.int IntKind.i64 0, Value.int IntKind.i64 0, Value.bool false, undef, undef, Value.int IntKind.u64 ↑n, Value.int IntKind.u64 (kk), Value.int IntKind.i64 (kk), Value.agg #[Value.int IntKind.i64 (kk), Value.int IntKind.i64 0, Value.int IntKind.i64 0, Value.int IntKind.i64 0, Value.bool false, Value.string ⟨#[]⟩, Value.int IntKind.i64 0, Value.int IntKind.i64 0, Value.string ⟨#[]⟩, Value.string ⟨#[]⟩, Value.int IntKind.i64 0, Value.slice none 0 0], .tuple #[.agg #[.string (kname j), .slice (some ⟨b, 0, none⟩) (kparts j).length (kparts j).length], .bool true], .map (some m), .pointer (some ⟨G, 0, none⟩), .int .i64 kk, .tuple #[.agg #[.string (kname j), .slice (some ⟨b, 0, none⟩) (kparts j).length (kparts j).length], .bool true], .agg #[.string (kname j), .slice (some ⟨b, 0, none⟩) (kparts j).length (kparts j).length], .bool true, undef, undef, undef, undef, undef, undef, undef, undef, undef, undef, undef, undef, undef, undef, undef, undef, undef, undef, undef, undef, undef, undef, undef, undef, undef, undef, undef, undef, undef, undef, undef, undef, undef, undef], defers := [] } w2 := by
        intro g m b w2 k2 hg bg bb
        refine hK2 _ _ ?_
        have hb' : Blk w2 b ((kparts j).map partv).toArray 54 := bb
        have hp3 := HP.out.2.2
        have hfb : FrB w2 G (Fr.made kk) none 0 := ⟨BF.out.kept k2, ⟨by have := HM2.out; unfold I64; rw [HKK.out]; show _ ≤ Fr.kindOf n ∧ Fr.kindOf n ≤ _; omega, i64_zero, i64_zero, i64_zero, Nat.zero_le _, Nat.zero_le _, fit_zero, MkS.nil w2⟩, .inl rfl⟩
        obtain ⟨ps, hps⟩ : ∃ ps, ps = kparts j := ⟨_, rfl⟩
        have hpe : Fr.parts kk = ps := HP.out.2.1.trans hps.symm
        have hrd := Hrd2.out
        rw [if_pos (by rw [HP.out.1]; rfl), hpe] at hrd
        have Hrd3 := Lib.hid hrd
        rw [← hps] at hp3 hb' bg ⊢
        obtain ⟨pn, hpn⟩ : ∃ pn, pn = ps.length := ⟨_, rfl⟩
        rw [← hpn] at hp3 bg ⊢
        have Hpn := Lib.hid hpn
        have HBB := Lib.hid hb'
        have HFB := Lib.hid hfb
        have BG := Lib.hid bg
        have d1 : w2.cell? ⟨g, 1, none⟩ = some (.slice (some ⟨b, 0, none⟩) pn pn) := cell_of bg 1 rfl
        have BR2 := Lib.hid (BR.out.kept k2)
        have KT := Lib.hid (KWW.out.trans k2)
        have HT2 := Lib.hid (HT.out.kept KT.out)
        have hblt := hb'.lt
        have hGlt := Nat.lt_of_lt_of_le hGW k2.size
        have hgG : G < g := Nat.lt_of_lt_of_le hGW hg
        have hbG : b ≠ G := fun e => by
          have h1 := hb'
          have h2 := hfb.blk
          rw [e] at h1
          unfold Blk at h1 h2
          rw [h1] at h2
          simp at h2
        have HPE : Hid ((Fr.has kk).isSome = true ∧ Fr.parts kk = ps) := ⟨by rw [HP.out.1]; rfl, hpe⟩
        clear hb' hfb hps hpe hrd hpn bb k2 hg bg Hrd2 HP
        generalize kname j = kn at BG ⊢
        have hTG : 0 ≠ G := by have := HT.out.size; have := HR.out; omega
        go_wp2
        clear d1
        go_loopw [5, 6, 11, 39] (fun av_ ev_ _ i wr => ∃ (k a' : Nat) (F : Fr.F), k ≤ pn ∧ i = .int .i64 k ∧ av_ = .int .i64 a' ∧ ev_ = .int .i64 0 ∧ a' ≤ s.size ∧ Hid (Fr.gets (ps.take k) s.data.toList (Fr.made kk, a, 0) = (F, a', 0)) ∧ Hid ((∃ av cap, FrB wr G F av cap) ∧ But (fun i => i = G) w2 wr)) (fun _ _ _ i _ => pn - (intOf i).toNat)
        case atStart => exact ⟨0, a, Fr.made kk, by omega, rfl, rfl, rfl, l2, rfl, ⟨none, 0, HFB.out⟩, But.refl _ _⟩
        case round =>
          obtain ⟨k, a', F, hk, rfl, rfl, rfl, ha', HG, HI⟩ := hrel
          obtain ⟨⟨av, cap, hfb⟩, kb⟩ := HI.out
          by_cases hlt : k < pn
          · have hkl : k < ps.length := by rw [← Hpn.out]; exact hlt
            have d0 := part_cell (HBB.out.but kb hbG) hkl
            have hTr : Tab wr := HT2.out.but kb hTG
            have cg := get_p ps[k] s a' F av cap G wr hfb hs ha' hTr
            have hgt := gets_take (l := s.data.toList) (st := (Fr.made kk, a, 0)) hkl
            rw [HG.out, Fr.step, if_pos rfl] at hgt
            simp only at hgt
            have hgl := p_get_le ps[k] s.data.toList a' F (by rw [Hsl.out]; exact ha')
            rw [Hsl.out] at hgl
            have hstop := @gets_stop ps s.data.toList (Fr.made kk, a, 0) (k + 1)
            obtain ⟨p, hp⟩ : ∃ p, p = ps[k] := ⟨_, rfl⟩
            rw [← hp] at d0 cg hgt hgl
            rw [hgt] at hstop
            generalize p.get s.data.toList a' F = X at cg hgt hgl hstop
            obtain ⟨F2, a2, e2⟩ := X
            simp only at cg hgl hstop
            have hme := get_of p
            have hen := get_enter p
            have CG2 := Lib.hid cg
            have HGT := Lib.hid hgt
            have HST := Lib.hid hstop
            have KB := Lib.hid kb
            obtain ⟨gl1, gl2⟩ := hgl
            clear cg hgt hstop kb hfb hp hTr HI HG
            go_wp2_with fail
            refine CG2.out.mono ?_
            rintro r w3 ⟨rfl, hfb3, kb3⟩
            have HI3 : Hid ((∃ av cap, FrB w3 G F2 av cap) ∧ But (fun i => i = G) w2 w3) := ⟨hfb3, KB.out.trans kb3 (fun _ _ h => h)⟩
            clear hfb3 kb3 hme hen d0 CG2 KB
            by_cases he : e2 = 0
            · subst he
              go_wp2
              go_roundw
              case rel => exact ⟨k + 1, a2, F2, by omega, by go_num, rfl, rfl, gl1, HGT, HI3⟩
              case measure => simp [intOf]; omega
            · have he2 : ((e2 : Int) == 0) = false := by simp only [beq_eq_false_iff_ne]; omega
              have he3 : ((e2 : Int) != 0) = true := by simp [bne, he2]
              have HX : Hid (Fr.read s.data.toList = (.zero, e2)) := by
                show _ = _
                rw [Hrd3.out, HST.out he, if_pos he]
              have b3 := BR2.out.but HI3.out.2 (by omega)
              have KT3 := Lib.hid (But.after KT.out HI3.out.2 (fun i hi => by have := HR.out; omega))
              have zc0 : w3.cell? ⟨R, 0, none⟩ = some (.int .i64 0) := cell_of b3 0 rfl
              have zf0 := b3.frozen 0
              have zs0 := set_same zc0
              have zc1 : w3.cell? ⟨R, 1, none⟩ = some (.int .i64 0) := cell_of b3 1 rfl
              have zf1 := b3.frozen 1
              have zs1 := set_same zc1
              have zc2 : w3.cell? ⟨R, 2, none⟩ = some (.int .i64 0) := cell_of b3 2 rfl
              have zf2 := b3.frozen 2
              have zs2 := set_same zc2
              have zc3 : w3.cell? ⟨R, 3, none⟩ = some (.int .i64 0) := cell_of b3 3 rfl
              have zf3 := b3.frozen 3
              have zs3 := set_same zc3
              have zc4 : w3.cell? ⟨R, 4, none⟩ = some (.bool false) := cell_of b3 4 rfl
              have zf4 := b3.frozen 4
              have zs4 := set_same zc4
              have zc5 : w3.cell? ⟨R, 5, none⟩ = some (.string ⟨#[]⟩) := cell_of b3 5 rfl
              have zf5 := b3.frozen 5
              have zs5 := set_same zc5
              have zc6 : w3.cell? ⟨R, 6, none⟩ = some (.int .i64 0) := cell_of b3 6 rfl
              have zf6 := b3.frozen 6
              have zs6 := set_same zc6
              have zc7 : w3.cell? ⟨R, 7, none⟩ = some (.int .i64 0) := cell_of b3 7 rfl
              have zf7 := b3.frozen 7
              have zs7 := set_same zc7
              have zc8 : w3.cell? ⟨R, 8, none⟩ = some (.string ⟨#[]⟩) := cell_of b3 8 rfl
              have zf8 := b3.frozen 8
              have zs8 := set_same zc8
              have zc9 : w3.cell? ⟨R, 9, none⟩ = some (.string ⟨#[]⟩) := cell_of b3 9 rfl
              have zf9 := b3.frozen 9
              have zs9 := set_same zc9
              have zc10 : w3.cell? ⟨R, 10, none⟩ = some (.int .i64 0) := cell_of b3 10 rfl
              have zf10 := b3.frozen 10
              have zs10 := set_same zc10
              have zc11 : w3.cell? ⟨R, 11, none⟩ = some (.slice none 0 0) := cell_of b3 11 rfl
              have zf11 := b3.frozen 11
              have zs11 := set_same zc11
              have B3 := Lib.hid b3
              clear b3 he HST HGT HI3
              go_wp2
              exact bodyPost_ret (ret_read _ _ R .zero none 0 _ rfl rfl B3.out) rfl (frRes_zero HX.out KT3.out)
          · obtain rfl : k = pn := by omega
            have hg := HG.out
            rw [List.take_of_length_le (by rw [← Hpn.out]; exact Nat.le_refl _)] at hg
            have HKF : Hid (F.k = kk) := by have h := Fr.gets_k s.data.toList ps (Fr.made kk, a, 0); rw [hg] at h; exact h
            have hrd := Hrd3.out
            rw [hg] at hrd
            simp only at hrd
            rw [if_neg (by simp), Hsl.out] at hrd
            have b3 := BR2.out.but kb (by omega)
            have kt3 : Kept w wr := But.after KT.out kb (fun i hi => by have := HR.out; omega)
            have bg3 := BG.out.but kb (by omega)
            have hca := fun w' (hq : Kept wr w') => allows_any kn F av cap b k w' ps Hpn.out.symm ((HBB.out.but kb hbG).kept hq) hp3 (hfb.s.kept hq)
            have Hrd4 := Lib.hid hrd
            have KT3 := Lib.hid kt3
            have B3 := Lib.hid b3
            clear hrd kt3 hg HG HI kb Hrd3
            by_cases ha2 : a' < s.size
            · have HX : Hid (Fr.read s.data.toList = (.zero, 4)) := by show _ = _; rw [Hrd4.out, if_pos ha2]
              clear hca bg3 hfb
              have zc0 : wr.cell? ⟨R, 0, none⟩ = some (.int .i64 0) := cell_of B3.out 0 rfl
              have zf0 := B3.out.frozen 0
              have zs0 := set_same zc0
              have zc1 : wr.cell? ⟨R, 1, none⟩ = some (.int .i64 0) := cell_of B3.out 1 rfl
              have zf1 := B3.out.frozen 1
              have zs1 := set_same zc1
              have zc2 : wr.cell? ⟨R, 2, none⟩ = some (.int .i64 0) := cell_of B3.out 2 rfl
              have zf2 := B3.out.frozen 2
              have zs2 := set_same zc2
              have zc3 : wr.cell? ⟨R, 3, none⟩ = some (.int .i64 0) := cell_of B3.out 3 rfl
              have zf3 := B3.out.frozen 3
              have zs3 := set_same zc3
              have zc4 : wr.cell? ⟨R, 4, none⟩ = some (.bool false) := cell_of B3.out 4 rfl
              have zf4 := B3.out.frozen 4
              have zs4 := set_same zc4
              have zc5 : wr.cell? ⟨R, 5, none⟩ = some (.string ⟨#[]⟩) := cell_of B3.out 5 rfl
              have zf5 := B3.out.frozen 5
              have zs5 := set_same zc5
              have zc6 : wr.cell? ⟨R, 6, none⟩ = some (.int .i64 0) := cell_of B3.out 6 rfl
              have zf6 := B3.out.frozen 6
              have zs6 := set_same zc6
              have zc7 : wr.cell? ⟨R, 7, none⟩ = some (.int .i64 0) := cell_of B3.out 7 rfl
              have zf7 := B3.out.frozen 7
              have zs7 := set_same zc7
              have zc8 : wr.cell? ⟨R, 8, none⟩ = some (.string ⟨#[]⟩) := cell_of B3.out 8 rfl
              have zf8 := B3.out.frozen 8
              have zs8 := set_same zc8
              have zc9 : wr.cell? ⟨R, 9, none⟩ = some (.string ⟨#[]⟩) := cell_of B3.out 9 rfl
              have zf9 := B3.out.frozen 9
              have zs9 := set_same zc9
              have zc10 : wr.cell? ⟨R, 10, none⟩ = some (.int .i64 0) := cell_of B3.out 10 rfl
              have zf10 := B3.out.frozen 10
              have zs10 := set_same zc10
              have zc11 : wr.cell? ⟨R, 11, none⟩ = some (.slice none 0 0) := cell_of B3.out 11 rfl
              have zf11 := B3.out.frozen 11
              have zs11 := set_same zc11
              go_wp2
              exact bodyPost_ret (ret_read _ _ R .zero none 0 _ rfl rfl B3.out) rfl (frRes_zero HX.out KT3.out)
            · have hrd := Hrd4.out
              rw [if_neg ha2] at hrd
              have ca := hca wr (Kept.refl wr)
              unfold frv frc at ca
              have t0 : wr.cell? ⟨g, 0, none⟩ = some (.string kn) := cell_of bg3 0 rfl
              have t1 : wr.cell? ⟨g, 1, none⟩ = some (.slice (some ⟨b, 0, none⟩) k k) := cell_of bg3 1 rfl
              have u0 : wr.cell? ⟨G, 0, none⟩ = some (.int .i64 F.k) := cell_of hfb.blk 0 rfl
              have u1 : wr.cell? ⟨G, 1, none⟩ = some (.int .i64 F.ep) := cell_of hfb.blk 1 rfl
              have u2 : wr.cell? ⟨G, 2, none⟩ = some (.int .i64 F.sq) := cell_of hfb.blk 2 rfl
              have u3 : wr.cell? ⟨G, 3, none⟩ = some (.int .i64 F.cr) := cell_of hfb.blk 3 rfl
              have u4 : wr.cell? ⟨G, 4, none⟩ = some (.bool F.on) := cell_of hfb.blk 4 rfl
              have u5 : wr.cell? ⟨G, 5, none⟩ = some (.string F.fl) := cell_of hfb.blk 5 rfl
              have u6 : wr.cell? ⟨G, 6, none⟩ = some (.int .i64 F.e.o) := cell_of hfb.blk 6 rfl
              have u7 : wr.cell? ⟨G, 7, none⟩ = some (.int .i64 F.e.s) := cell_of hfb.blk 7 rfl
              have u8 : wr.cell? ⟨G, 8, none⟩ = some (.string F.e.t) := cell_of hfb.blk 8 rfl
              have u9 : wr.cell? ⟨G, 9, none⟩ = some (.string F.e.l) := cell_of hfb.blk 9 rfl
              have u10 : wr.cell? ⟨G, 10, none⟩ = some (.int .i64 F.e.d) := cell_of hfb.blk 10 rfl
              have u11 : wr.cell? ⟨G, 11, none⟩ = some (.slice av F.ms.length cap) := cell_of hfb.blk 11 rfl
              have CA := Lib.hid ca
              have HFB3 := Lib.hid hfb
              have Hrd5 := Lib.hid hrd
              clear ca hca bg3 hfb hrd Hrd4
              go_wp2_with fail
              refine CA.out.mono ?_
              rintro r w6 ⟨rfl, kk6⟩
              have b6 := B3.out.kept kk6
              have f6 := HFB3.out.kept kk6
              have K6 := Lib.hid (KT3.out.trans kk6)
              clear kk6 t0 t1 u0 u1 u2 u3 u4 u5 u6 u7 u8 u9 u10 u11 CA
              cases hal : Fr.allows ps F with
              | false =>
                have HX : Hid (Fr.read s.data.toList = (.zero, 4)) := by show _ = _; rw [Hrd5.out, hal]; rfl
                have zc0 : w6.cell? ⟨R, 0, none⟩ = some (.int .i64 0) := cell_of b6 0 rfl
                have zf0 := b6.frozen 0
                have zs0 := set_same zc0
                have zc1 : w6.cell? ⟨R, 1, none⟩ = some (.int .i64 0) := cell_of b6 1 rfl
                have zf1 := b6.frozen 1
                have zs1 := set_same zc1
                have zc2 : w6.cell? ⟨R, 2, none⟩ = some (.int .i64 0) := cell_of b6 2 rfl
                have zf2 := b6.frozen 2
                have zs2 := set_same zc2
                have zc3 : w6.cell? ⟨R, 3, none⟩ = some (.int .i64 0) := cell_of b6 3 rfl
                have zf3 := b6.frozen 3
                have zs3 := set_same zc3
                have zc4 : w6.cell? ⟨R, 4, none⟩ = some (.bool false) := cell_of b6 4 rfl
                have zf4 := b6.frozen 4
                have zs4 := set_same zc4
                have zc5 : w6.cell? ⟨R, 5, none⟩ = some (.string ⟨#[]⟩) := cell_of b6 5 rfl
                have zf5 := b6.frozen 5
                have zs5 := set_same zc5
                have zc6 : w6.cell? ⟨R, 6, none⟩ = some (.int .i64 0) := cell_of b6 6 rfl
                have zf6 := b6.frozen 6
                have zs6 := set_same zc6
                have zc7 : w6.cell? ⟨R, 7, none⟩ = some (.int .i64 0) := cell_of b6 7 rfl
                have zf7 := b6.frozen 7
                have zs7 := set_same zc7
                have zc8 : w6.cell? ⟨R, 8, none⟩ = some (.string ⟨#[]⟩) := cell_of b6 8 rfl
                have zf8 := b6.frozen 8
                have zs8 := set_same zc8
                have zc9 : w6.cell? ⟨R, 9, none⟩ = some (.string ⟨#[]⟩) := cell_of b6 9 rfl
                have zf9 := b6.frozen 9
                have zs9 := set_same zc9
                have zc10 : w6.cell? ⟨R, 10, none⟩ = some (.int .i64 0) := cell_of b6 10 rfl
                have zf10 := b6.frozen 10
                have zs10 := set_same zc10
                have zc11 : w6.cell? ⟨R, 11, none⟩ = some (.slice none 0 0) := cell_of b6 11 rfl
                have zf11 := b6.frozen 11
                have zs11 := set_same zc11
                have B6 := Lib.hid b6
                clear b6 f6 hal Hrd5
                go_wp2
                exact bodyPost_ret (ret_read _ _ R .zero none 0 _ rfl rfl B6.out) rfl (frRes_zero HX.out K6.out)
              | true =>
                have HX : Hid (Fr.read s.data.toList = (F, 0)) := by show _ = _; rw [Hrd5.out, hal]; rfl
                have zc0 : w6.cell? ⟨R, 0, none⟩ = some (.int .i64 0) := cell_of b6 0 rfl
                have zf0 := b6.frozen 0
                have zc1 : w6.cell? ⟨R, 1, none⟩ = some (.int .i64 0) := cell_of b6 1 rfl
                have zf1 := b6.frozen 1
                have zc2 : w6.cell? ⟨R, 2, none⟩ = some (.int .i64 0) := cell_of b6 2 rfl
                have zf2 := b6.frozen 2
                have zc3 : w6.cell? ⟨R, 3, none⟩ = some (.int .i64 0) := cell_of b6 3 rfl
                have zf3 := b6.frozen 3
                have zc4 : w6.cell? ⟨R, 4, none⟩ = some (.bool false) := cell_of b6 4 rfl
                have zf4 := b6.frozen 4
                have zc5 : w6.cell? ⟨R, 5, none⟩ = some (.string ⟨#[]⟩) := cell_of b6 5 rfl
                have zf5 := b6.frozen 5
                have zc6 : w6.cell? ⟨R, 6, none⟩ = some (.int .i64 0) := cell_of b6 6 rfl
                have zf6 := b6.frozen 6
                have zc7 : w6.cell? ⟨R, 7, none⟩ = some (.int .i64 0) := cell_of b6 7 rfl
                have zf7 := b6.frozen 7
                have zc8 : w6.cell? ⟨R, 8, none⟩ = some (.string ⟨#[]⟩) := cell_of b6 8 rfl
                have zf8 := b6.frozen 8
                have zc9 : w6.cell? ⟨R, 9, none⟩ = some (.string ⟨#[]⟩) := cell_of b6 9 rfl
                have zf9 := b6.frozen 9
                have zc10 : w6.cell? ⟨R, 10, none⟩ = some (.int .i64 0) := cell_of b6 10 rfl
                have zf10 := b6.frozen 10
                have zc11 : w6.cell? ⟨R, 11, none⟩ = some (.slice none 0 0) := cell_of b6 11 rfl
                have zf11 := b6.frozen 11
                have u0 : w6.cell? ⟨G, 0, none⟩ = some (.int .i64 F.k) := cell_of f6.blk 0 rfl
                have u1 : w6.cell? ⟨G, 1, none⟩ = some (.int .i64 F.ep) := cell_of f6.blk 1 rfl
                have u2 : w6.cell? ⟨G, 2, none⟩ = some (.int .i64 F.sq) := cell_of f6.blk 2 rfl
                have u3 : w6.cell? ⟨G, 3, none⟩ = some (.int .i64 F.cr) := cell_of f6.blk 3 rfl
                have u4 : w6.cell? ⟨G, 4, none⟩ = some (.bool F.on) := cell_of f6.blk 4 rfl
                have u5 : w6.cell? ⟨G, 5, none⟩ = some (.string F.fl) := cell_of f6.blk 5 rfl
                have u6 : w6.cell? ⟨G, 6, none⟩ = some (.int .i64 F.e.o) := cell_of f6.blk 6 rfl
                have u7 : w6.cell? ⟨G, 7, none⟩ = some (.int .i64 F.e.s) := cell_of f6.blk 7 rfl
                have u8 : w6.cell? ⟨G, 8, none⟩ = some (.string F.e.t) := cell_of f6.blk 8 rfl
                have u9 : w6.cell? ⟨G, 9, none⟩ = some (.string F.e.l) := cell_of f6.blk 9 rfl
                have u10 : w6.cell? ⟨G, 10, none⟩ = some (.int .i64 F.e.d) := cell_of f6.blk 10 rfl
                have u11 : w6.cell? ⟨G, 11, none⟩ = some (.slice av F.ms.length cap) := cell_of f6.blk 11 rfl
                have B7 := Lib.hid (fr_sets b6 F av cap)
                have K7 := Lib.hid (fr_sets_kept (R := R) K6.out (by have := HR.out; omega) (.int .i64 F.k) (.int .i64 F.ep) (.int .i64 F.sq) (.int .i64 F.cr) (.bool F.on) (.string F.fl) (.int .i64 F.e.o) (.int .i64 F.e.s) (.string F.e.t) (.string F.e.l) (.int .i64 F.e.d) (.slice av F.ms.length cap))
                have hlow : F.ms = [] ∨ ∀ x, av = some x → x.block ≠ R := marks_far f6.s.ms b6 (right_ms F (by rw [Fr.right, HKF.out, HPE.out.1, HPE.out.2, hal]; rfl))
                have F7 := Lib.hid (frs_sets (R := R) f6.s hlow (.int .i64 F.k) (.int .i64 F.ep) (.int .i64 F.sq) (.int .i64 F.cr) (.bool F.on) (.string F.fl) (.int .i64 F.e.o) (.int .i64 F.e.s) (.string F.e.t) (.string F.e.l) (.int .i64 F.e.d) (.slice av F.ms.length cap))
                have hRw6 := b6.lt
                clear b6 f6 hal Hrd5 hlow
                go_wp2
                exact bodyPost_ret (ret_read _ _ R F av cap 0 rfl rfl B7.out) rfl ⟨av, cap, by rw [HX.out]; rfl, by rw [HX.out]; exact F7.out, K7.out⟩
      have KEY2 := Lib.hid key2
      clear key2 hK2
      go_region_held3 (fun w' => w'.cell? ⟨G, 0, none⟩ = some (.int .i64 kk)) (first | exact s0 | exact s1 | exact KEY.out _ (((Kept.refl W).drew).alloc _) | exact KEY.out _ (Kept.alloc k1 _) | exact KEY.out _ (Below.setCell (Below.setCell k1 (p := ⟨W.heap.size, 0, none⟩) (Nat.le_refl _) _) (p := ⟨W.heap.size, 1, none⟩) (Nat.le_refl _) _))
        ((go_at_call 40; refine (kinds_any _).mono ?_; rintro r w1 ⟨m, rfl, hm, k1'⟩
          have k1 : Kept W w1 := (by first | exact ((Kept.refl W).drew).trans k1' | exact (((Kept.refl W).drew).alloc _).trans k1' | exact (((Kept.refl W).alloc _).drew).trans k1')
          have s1 := KEY.out w1 k1
          obtain ⟨b, hb, hl, hl2⟩ := look_two hm kk j HJ.out.1 HJ.out.2
          first | (have qq := zero_kind k1'; obtain ⟨q1, q2, q3, q4, q5⟩ := qq; have Q5 := Lib.hid q5; clear q5) | skip))
      all_goals first
        | exact KEY2.out _ _ _ _ (Kept.alloc k1 _) k1.size (Blk.made w1 _ _) (hb.alloc _)
        | exact KEY2.out _ _ _ _ (Below.setCell (Below.setCell k1 (p := ⟨W.heap.size, 0, none⟩) (Nat.le_refl _) _) (p := ⟨W.heap.size, 1, none⟩) (Nat.le_refl _) _) (Nat.le_refl _) ((Q5.out.set 0 _).set 1 _) ((hb.far ⟨W.heap.size, 0, none⟩ _ (blk_ne hb Q5.out)).far ⟨W.heap.size, 1, none⟩ _ (blk_ne hb Q5.out))
    · have HX : Hid (Fr.read s.data.toList = (.zero, 6)) := by
        show _ = _
        rw [Hrd2.out, if_neg]
        rcases Fr.has_cases kk with ⟨e, _⟩ | ⟨e, _⟩ | ⟨e, _⟩ | ⟨e, _⟩ | ⟨e, _⟩ | ⟨e, _⟩ | ⟨_, e, _⟩
        all_goals first | omega | (rw [e]; simp)
      have HK := Lib.hid hk
      clear hk Hrd2
      have key2 : ∀ (g m : Nat) (w2 : World), Kept W w2 → W.heap.size ≤ g → Blk w2 g #[.string ⟨#[]⟩, .slice none 0 0] 44 → K2
          { tmps := #[Value.string s, undef, Value.pointer (some ⟨R, 0, none⟩), Value.int IntKind.i64 0, Value.int IntKind.u64 ↑n, Value.int IntKind.i64 ↑a, Value.int IntKind.i64 0, Value.pointer (some ⟨G, 0, none⟩), .pointer (some ⟨g, 0, none⟩), .bool false, undef, undef, Value.tuple #[Value.int IntKind.u64 ↑n, Value.int IntKind.i64 ↑a, Value.int IntKind.i64 0], Value.string s, Value.tuple #[Value.int IntKind.u64 ↑n, Value.int IntKind.i64 ↑a, Value.int IntKind.i64 0], Value.int IntKind.u64 ↑n, Value.int IntKind.i64 ↑a, Value.int IntKind.i64 0, Value.int IntKind.i64 0, Value.bool false, undef, undef, Value.int IntKind.u64 ↑n, Value.int IntKind.u64 (kk), Value.int IntKind.i64 (kk), Value.agg #[Value.int IntKind.i64 (kk), Value.int IntKind.i64 0, Value.int IntKind.i64 0, Value.int IntKind.i64 0, Value.bool false, Value.string ⟨#[]⟩, Value.int IntKind.i64 0, Value.int IntKind.i64 0, Value.string ⟨#[]⟩, Value.string ⟨#[]⟩, Value.int IntKind.i64 0, Value.slice none 0 0], .tuple #[.agg #[.string ⟨#[]⟩, .slice none 0 0], .bool false], .map (some m), .pointer (some ⟨G, 0, none⟩), .int .i64 kk, .tuple #[.agg #[.string ⟨#[]⟩, .slice none 0 0], .bool false], .agg #[.string ⟨#[]⟩, .slice none 0 0], .bool false, undef, undef, undef, undef, undef, undef, undef, undef, undef, undef, undef, undef, undef, undef, undef, undef, undef, undef, undef, undef, undef, undef, undef, undef, undef, undef, undef, undef, undef, undef, undef, undef, undef, undef], defers := [] } w2 := by
        intro g m w2 k2 hg bg
        refine hK2 _ _ ?_
        have b2 := BR.out.kept k2
        have KT := Lib.hid (KWW.out.trans k2)
        have zc0 : w2.cell? ⟨R, 0, none⟩ = some (.int .i64 0) := cell_of b2 0 rfl
        have zf0 := b2.frozen 0
        have zs0 := set_same zc0
        have zc1 : w2.cell? ⟨R, 1, none⟩ = some (.int .i64 0) := cell_of b2 1 rfl
        have zf1 := b2.frozen 1
        have zs1 := set_same zc1
        have zc2 : w2.cell? ⟨R, 2, none⟩ = some (.int .i64 0) := cell_of b2 2 rfl
        have zf2 := b2.frozen 2
        have zs2 := set_same zc2
        have zc3 : w2.cell? ⟨R, 3, none⟩ = some (.int .i64 0) := cell_of b2 3 rfl
        have zf3 := b2.frozen 3
        have zs3 := set_same zc3
        have zc4 : w2.cell? ⟨R, 4, none⟩ = some (.bool false) := cell_of b2 4 rfl
        have zf4 := b2.frozen 4
        have zs4 := set_same zc4
        have zc5 : w2.cell? ⟨R, 5, none⟩ = some (.string ⟨#[]⟩) := cell_of b2 5 rfl
        have zf5 := b2.frozen 5
        have zs5 := set_same zc5
        have zc6 : w2.cell? ⟨R, 6, none⟩ = some (.int .i64 0) := cell_of b2 6 rfl
        have zf6 := b2.frozen 6
        have zs6 := set_same zc6
        have zc7 : w2.cell? ⟨R, 7, none⟩ = some (.int .i64 0) := cell_of b2 7 rfl
        have zf7 := b2.frozen 7
        have zs7 := set_same zc7
        have zc8 : w2.cell? ⟨R, 8, none⟩ = some (.string ⟨#[]⟩) := cell_of b2 8 rfl
        have zf8 := b2.frozen 8
        have zs8 := set_same zc8
        have zc9 : w2.cell? ⟨R, 9, none⟩ = some (.string ⟨#[]⟩) := cell_of b2 9 rfl
        have zf9 := b2.frozen 9
        have zs9 := set_same zc9
        have zc10 : w2.cell? ⟨R, 10, none⟩ = some (.int .i64 0) := cell_of b2 10 rfl
        have zf10 := b2.frozen 10
        have zs10 := set_same zc10
        have zc11 : w2.cell? ⟨R, 11, none⟩ = some (.slice none 0 0) := cell_of b2 11 rfl
        have zf11 := b2.frozen 11
        have zs11 := set_same zc11
        have B2 := Lib.hid b2
        clear b2 k2 hg bg
        go_wp2
        exact bodyPost_ret (ret_read _ _ R .zero none 0 _ rfl rfl B2.out) rfl (frRes_zero HX.out KT.out)
      have KEY2 := Lib.hid key2
      clear key2 hK2
      go_region_held3 (fun w' => w'.cell? ⟨G, 0, none⟩ = some (.int .i64 kk)) (first | exact s0 | exact s1 | exact KEY.out _ (((Kept.refl W).drew).alloc _) | exact KEY.out _ (Kept.alloc k1 _) | exact KEY.out _ (Below.setCell (Below.setCell k1 (p := ⟨W.heap.size, 0, none⟩) (Nat.le_refl _) _) (p := ⟨W.heap.size, 1, none⟩) (Nat.le_refl _) _))
        ((go_at_call 40; refine (kinds_any _).mono ?_; rintro r w1 ⟨m, rfl, hm, k1'⟩
          have k1 : Kept W w1 := (by first | exact ((Kept.refl W).drew).trans k1' | exact (((Kept.refl W).drew).alloc _).trans k1' | exact (((Kept.refl W).alloc _).drew).trans k1')
          have s1 := KEY.out w1 k1
          obtain ⟨hl, hl2⟩ := miss_two hm kk HK.out
          first | (have qq := zero_kind k1'; obtain ⟨q1, q2, q3, q4, q5⟩ := qq; have Q5 := Lib.hid q5; clear q5) | skip))
      all_goals first
        | exact KEY2.out _ _ _ (Kept.alloc k1 _) k1.size (Blk.made w1 _ _)
        | exact KEY2.out _ _ _ (Below.setCell (Below.setCell k1 (p := ⟨W.heap.size, 0, none⟩) (Nat.le_refl _) _) (p := ⟨W.heap.size, 1, none⟩) (Nat.le_refl _) _) (Nat.le_refl _) ((Q5.out.set 0 _).set 1 _)
  · have he2 : ((er : Int) == 0) = false := by simp only [beq_eq_false_iff_ne]; omega
    have he3 : ((er : Int) != 0) = true := by simp [bne, he2]
    have HX : Hid (Fr.read s.data.toList = (.zero, er)) := by show _ = _; rw [Hrd.out, if_pos he]
    have zc0 : w1.cell? ⟨R, 0, none⟩ = some (.int .i64 0) := cell_of b1 0 rfl
    have zf0 := b1.frozen 0
    have zs0 := set_same zc0
    have zc1 : w1.cell? ⟨R, 1, none⟩ = some (.int .i64 0) := cell_of b1 1 rfl
    have zf1 := b1.frozen 1
    have zs1 := set_same zc1
    have zc2 : w1.cell? ⟨R, 2, none⟩ = some (.int .i64 0) := cell_of b1 2 rfl
    have zf2 := b1.frozen 2
    have zs2 := set_same zc2
    have zc3 : w1.cell? ⟨R, 3, none⟩ = some (.int .i64 0) := cell_of b1 3 rfl
    have zf3 := b1.frozen 3
    have zs3 := set_same zc3
    have zc4 : w1.cell? ⟨R, 4, none⟩ = some (.bool false) := cell_of b1 4 rfl
    have zf4 := b1.frozen 4
    have zs4 := set_same zc4
    have zc5 : w1.cell? ⟨R, 5, none⟩ = some (.string ⟨#[]⟩) := cell_of b1 5 rfl
    have zf5 := b1.frozen 5
    have zs5 := set_same zc5
    have zc6 : w1.cell? ⟨R, 6, none⟩ = some (.int .i64 0) := cell_of b1 6 rfl
    have zf6 := b1.frozen 6
    have zs6 := set_same zc6
    have zc7 : w1.cell? ⟨R, 7, none⟩ = some (.int .i64 0) := cell_of b1 7 rfl
    have zf7 := b1.frozen 7
    have zs7 := set_same zc7
    have zc8 : w1.cell? ⟨R, 8, none⟩ = some (.string ⟨#[]⟩) := cell_of b1 8 rfl
    have zf8 := b1.frozen 8
    have zs8 := set_same zc8
    have zc9 : w1.cell? ⟨R, 9, none⟩ = some (.string ⟨#[]⟩) := cell_of b1 9 rfl
    have zf9 := b1.frozen 9
    have zs9 := set_same zc9
    have zc10 : w1.cell? ⟨R, 10, none⟩ = some (.int .i64 0) := cell_of b1 10 rfl
    have zf10 := b1.frozen 10
    have zs10 := set_same zc10
    have zc11 : w1.cell? ⟨R, 11, none⟩ = some (.slice none 0 0) := cell_of b1 11 rfl
    have zf11 := b1.frozen 11
    have zs11 := set_same zc11
    clear b1 he
    go_wp2
    exact bodyPost_ret (ret_read _ _ R .zero none 0 _ rfl rfl B1.out) rfl (frRes_zero HX.out K1.out)
end Go.Proofs.YtlfmpoinjbmjoaaGreatDoor

namespace Go.Proofs.YtlfmpoinjbmjoaaGreatDoor
open Go.ChangeShapes Go.WideShapes Go.ChangeAt Go.RowKit

theorem ret_get (tmps : Array Value) (W : World) (R : Nat) (f : Fr.F) (av : Option Addr) (cap : Nat) (e : Int) (h2 : tmps[2]? = some (.pointer (some ⟨R, 0, none⟩))) (h3 : tmps[3]? = some (.int .i64 e)) (hb : Blk W R (frc f av cap) 26) :
    (results Tryz.f21 tmps).run Tryz.prog W = .ok (.tuple #[frv f av cap, .int .i64 e]) W := by
  have c0 : W.cell? ⟨R, 0, none⟩ = some (.int .i64 f.k) := cell_of hb 0 rfl
  have c1 : W.cell? ⟨R, 1, none⟩ = some (.int .i64 f.ep) := cell_of hb 1 rfl
  have c2 : W.cell? ⟨R, 2, none⟩ = some (.int .i64 f.sq) := cell_of hb 2 rfl
  have c3 : W.cell? ⟨R, 3, none⟩ = some (.int .i64 f.cr) := cell_of hb 3 rfl
  have c4 : W.cell? ⟨R, 4, none⟩ = some (.bool f.on) := cell_of hb 4 rfl
  have c5 : W.cell? ⟨R, 5, none⟩ = some (.string f.fl) := cell_of hb 5 rfl
  have c6 : W.cell? ⟨R, 6, none⟩ = some (.int .i64 f.e.o) := cell_of hb 6 rfl
  have c7 : W.cell? ⟨R, 7, none⟩ = some (.int .i64 f.e.s) := cell_of hb 7 rfl
  have c8 : W.cell? ⟨R, 8, none⟩ = some (.string f.e.t) := cell_of hb 8 rfl
  have c9 : W.cell? ⟨R, 9, none⟩ = some (.string f.e.l) := cell_of hb 9 rfl
  have c10 : W.cell? ⟨R, 10, none⟩ = some (.int .i64 f.e.d) := cell_of hb 10 rfl
  have c11 : W.cell? ⟨R, 11, none⟩ = some (.slice av f.ms.length cap) := cell_of hb 11 rfl
  simp [results, Tryz.f21, go_sem, h2, h3, frv, frc, c0, c1, c2, c3, c4, c5, c6, c7, c8, c9, c10, c11]

set_option maxHeartbeats 2000000 in
set_option maxRecDepth 100000 in
theorem frget_any (s : ByteArray) (w : World) (hs : s.size ≤ 140737488355328) (hT : Tab w) :
    Calls Tryz.prog 21 #[.string s] w (FrRes w (Fr.get s.data.toList)) := by
  have Hsl := Lib.hid (size_len s)
  have HT := Lib.hid hT
  clear hT
  have b1 : Blk (w.alloc (.cells zcs 26)) w.heap.size zcs 26 := Blk.made w zcs _
  have k1 : Kept w (w.alloc (.cells zcs 26)) := (Kept.refl w).alloc _
  have hrd : Fr.get s.data.toList = Fr.get s.data.toList := rfl
  conv at hrd => rhs; unfold Fr.get
  rw [Hsl.out] at hrd
  by_cases hbig : 4096 < s.size
  · have HX : Hid (Fr.get s.data.toList = (.zero, 2)) := by show _ = _; rw [hrd, if_pos hbig]
    clear hrd
    unfold zcs at b1 k1
    go_enter Tryz.func21, Tryz.ntmps21
    go_wp2
    exact bodyPost_ret (ret_get _ _ w.heap.size .zero none 0 _ rfl rfl b1) rfl (frRes_zero HX.out k1)
  · rw [if_neg hbig] at hrd
    have hle := Ck.open_le s.data.toList 0
    have hc0 := fun w' (k : Kept w w') => open_any s 0 w' hs (by omega) (by omega) (HT.out.kept k)
    obtain ⟨⟨x, t, er⟩, hv⟩ : ∃ x, x = Ck.open_ s.data.toList 0 := ⟨_, rfl⟩
    have hlen := Ck.open_got s.data.toList
    rw [← hv] at hrd hle hc0 hlen
    simp only at hrd hle hlen
    unfold tups at hc0
    simp only at hc0
    obtain ⟨p, hp, sp, lp⟩ := name_row x
    rw [hp] at hc0
    obtain ⟨l1, l2, l3⟩ := hle
    rw [Hsl.out] at l2
    have Hrd := Lib.hid hrd
    have CG := Lib.hid hc0
    clear hrd hv hc0 hlen hp
    unfold zcs at b1 k1
    go_enter Tryz.func21, Tryz.ntmps21
    go_wp2_with fail
    refine (CG.out _ k1).mono ?_
    rintro r w1 ⟨rfl, k2⟩
    have b2 : Blk w1 w.heap.size zcs 26 := b1.kept k2
    have K2 := Lib.hid (k1.trans k2)
    obtain ⟨R, hR⟩ : ∃ R, R = w.heap.size := ⟨_, rfl⟩
    rw [← hR] at b2 ⊢
    have HR := Lib.hid hR
    have B2 := Lib.hid b2
    clear k2 hR CG b1 k1
    by_cases he : er = 0
    · subst he
      have hrd := Hrd.out
      rw [if_neg (by simp)] at hrd
      by_cases ht : t < s.size
      · have HX : Hid (Fr.get s.data.toList = (.zero, 4)) := by show _ = _; rw [hrd, if_pos ht]
        clear hrd
        have zc0 : w1.cell? ⟨R, 0, none⟩ = some (.int .i64 0) := cell_of b2 0 rfl
        have zf0 := b2.frozen 0
        have zs0 := set_same zc0
        have zc1 : w1.cell? ⟨R, 1, none⟩ = some (.int .i64 0) := cell_of b2 1 rfl
        have zf1 := b2.frozen 1
        have zs1 := set_same zc1
        have zc2 : w1.cell? ⟨R, 2, none⟩ = some (.int .i64 0) := cell_of b2 2 rfl
        have zf2 := b2.frozen 2
        have zs2 := set_same zc2
        have zc3 : w1.cell? ⟨R, 3, none⟩ = some (.int .i64 0) := cell_of b2 3 rfl
        have zf3 := b2.frozen 3
        have zs3 := set_same zc3
        have zc4 : w1.cell? ⟨R, 4, none⟩ = some (.bool false) := cell_of b2 4 rfl
        have zf4 := b2.frozen 4
        have zs4 := set_same zc4
        have zc5 : w1.cell? ⟨R, 5, none⟩ = some (.string ⟨#[]⟩) := cell_of b2 5 rfl
        have zf5 := b2.frozen 5
        have zs5 := set_same zc5
        have zc6 : w1.cell? ⟨R, 6, none⟩ = some (.int .i64 0) := cell_of b2 6 rfl
        have zf6 := b2.frozen 6
        have zs6 := set_same zc6
        have zc7 : w1.cell? ⟨R, 7, none⟩ = some (.int .i64 0) := cell_of b2 7 rfl
        have zf7 := b2.frozen 7
        have zs7 := set_same zc7
        have zc8 : w1.cell? ⟨R, 8, none⟩ = some (.string ⟨#[]⟩) := cell_of b2 8 rfl
        have zf8 := b2.frozen 8
        have zs8 := set_same zc8
        have zc9 : w1.cell? ⟨R, 9, none⟩ = some (.string ⟨#[]⟩) := cell_of b2 9 rfl
        have zf9 := b2.frozen 9
        have zs9 := set_same zc9
        have zc10 : w1.cell? ⟨R, 10, none⟩ = some (.int .i64 0) := cell_of b2 10 rfl
        have zf10 := b2.frozen 10
        have zs10 := set_same zc10
        have zc11 : w1.cell? ⟨R, 11, none⟩ = some (.slice none 0 0) := cell_of b2 11 rfl
        have zf11 := b2.frozen 11
        have zs11 := set_same zc11
        clear b2
        go_wp2
        exact bodyPost_ret (ret_get _ _ R .zero none 0 _ rfl rfl B2.out) rfl (frRes_zero HX.out K2.out)
      · rw [if_neg ht] at hrd
        have Hrd2 := Lib.hid hrd
        have hti : ¬ ((t : Int) < (s.size : Int)) := by omega
        have CR := Lib.hid (read_any p w1 (by omega) (HT.out.kept K2.out))
        rw [lp] at CR
        clear hrd b2
        go_wp2_with fail
        refine CR.out.mono ?_
        rintro r w3 ⟨av, cap, rfl, hf3, k3⟩
        have b3 := B2.out.kept k3
        have K3 := Lib.hid (K2.out.trans k3)
        generalize hX : Fr.read x = X at hf3 Hrd2 ⊢
        obtain ⟨F, e⟩ := X
        simp only at hf3 ⊢
        have hms : F.ms = [] ∨ Ev.sorted F.ms = true := by
          by_cases h0 : e = 0
          · subst h0
            exact right_ms F (Fr.read_got x F hX).1
          · left
            have := Fr.read_bad x (by rw [hX]; exact h0)
            rw [hX] at this
            simp only at this
            rw [this]; rfl
        have hlow := marks_far hf3.ms b3 hms
        have zc0 : w3.cell? ⟨R, 0, none⟩ = some (.int .i64 0) := cell_of b3 0 rfl
        have zf0 := b3.frozen 0
        have zc1 : w3.cell? ⟨R, 1, none⟩ = some (.int .i64 0) := cell_of b3 1 rfl
        have zf1 := b3.frozen 1
        have zc2 : w3.cell? ⟨R, 2, none⟩ = some (.int .i64 0) := cell_of b3 2 rfl
        have zf2 := b3.frozen 2
        have zc3 : w3.cell? ⟨R, 3, none⟩ = some (.int .i64 0) := cell_of b3 3 rfl
        have zf3 := b3.frozen 3
        have zc4 : w3.cell? ⟨R, 4, none⟩ = some (.bool false) := cell_of b3 4 rfl
        have zf4 := b3.frozen 4
        have zc5 : w3.cell? ⟨R, 5, none⟩ = some (.string ⟨#[]⟩) := cell_of b3 5 rfl
        have zf5 := b3.frozen 5
        have zc6 : w3.cell? ⟨R, 6, none⟩ = some (.int .i64 0) := cell_of b3 6 rfl
        have zf6 := b3.frozen 6
        have zc7 : w3.cell? ⟨R, 7, none⟩ = some (.int .i64 0) := cell_of b3 7 rfl
        have zf7 := b3.frozen 7
        have zc8 : w3.cell? ⟨R, 8, none⟩ = some (.string ⟨#[]⟩) := cell_of b3 8 rfl
        have zf8 := b3.frozen 8
        have zc9 : w3.cell? ⟨R, 9, none⟩ = some (.string ⟨#[]⟩) := cell_of b3 9 rfl
        have zf9 := b3.frozen 9
        have zc10 : w3.cell? ⟨R, 10, none⟩ = some (.int .i64 0) := cell_of b3 10 rfl
        have zf10 := b3.frozen 10
        have zc11 : w3.cell? ⟨R, 11, none⟩ = some (.slice none 0 0) := cell_of b3 11 rfl
        have zf11 := b3.frozen 11
        have B7 := Lib.hid (fr_sets b3 F av cap)
        have K7 := Lib.hid (fr_sets_kept (R := R) K3.out (by have := HR.out; omega) (.int .i64 F.k) (.int .i64 F.ep) (.int .i64 F.sq) (.int .i64 F.cr) (.bool F.on) (.string F.fl) (.int .i64 F.e.o) (.int .i64 F.e.s) (.string F.e.t) (.string F.e.l) (.int .i64 F.e.d) (.slice av F.ms.length cap))
        have F7 := Lib.hid (frs_sets (R := R) hf3 hlow (.int .i64 F.k) (.int .i64 F.ep) (.int .i64 F.sq) (.int .i64 F.cr) (.bool F.on) (.string F.fl) (.int .i64 F.e.o) (.int .i64 F.e.s) (.string F.e.t) (.string F.e.l) (.int .i64 F.e.d) (.slice av F.ms.length cap))
        have HX := Lib.hid hX
        clear b3 k3 hf3 hX hms hlow CR
        unfold frv frc
        go_wp2
        exact bodyPost_ret (ret_get _ _ R F av cap _ rfl rfl B7.out) rfl ⟨av, cap, by rw [Hrd2.out], by rw [Hrd2.out]; exact F7.out, K7.out⟩
    · have he2 : ((er : Int) == 0) = false := by simp only [beq_eq_false_iff_ne]; omega
      have he3 : ((er : Int) != 0) = true := by simp [bne, he2]
      have HX : Hid (Fr.get s.data.toList = (.zero, er)) := by show _ = _; rw [Hrd.out, if_pos he]
      have zc0 : w1.cell? ⟨R, 0, none⟩ = some (.int .i64 0) := cell_of b2 0 rfl
      have zf0 := b2.frozen 0
      have zs0 := set_same zc0
      have zc1 : w1.cell? ⟨R, 1, none⟩ = some (.int .i64 0) := cell_of b2 1 rfl
      have zf1 := b2.frozen 1
      have zs1 := set_same zc1
      have zc2 : w1.cell? ⟨R, 2, none⟩ = some (.int .i64 0) := cell_of b2 2 rfl
      have zf2 := b2.frozen 2
      have zs2 := set_same zc2
      have zc3 : w1.cell? ⟨R, 3, none⟩ = some (.int .i64 0) := cell_of b2 3 rfl
      have zf3 := b2.frozen 3
      have zs3 := set_same zc3
      have zc4 : w1.cell? ⟨R, 4, none⟩ = some (.bool false) := cell_of b2 4 rfl
      have zf4 := b2.frozen 4
      have zs4 := set_same zc4
      have zc5 : w1.cell? ⟨R, 5, none⟩ = some (.string ⟨#[]⟩) := cell_of b2 5 rfl
      have zf5 := b2.frozen 5
      have zs5 := set_same zc5
      have zc6 : w1.cell? ⟨R, 6, none⟩ = some (.int .i64 0) := cell_of b2 6 rfl
      have zf6 := b2.frozen 6
      have zs6 := set_same zc6
      have zc7 : w1.cell? ⟨R, 7, none⟩ = some (.int .i64 0) := cell_of b2 7 rfl
      have zf7 := b2.frozen 7
      have zs7 := set_same zc7
      have zc8 : w1.cell? ⟨R, 8, none⟩ = some (.string ⟨#[]⟩) := cell_of b2 8 rfl
      have zf8 := b2.frozen 8
      have zs8 := set_same zc8
      have zc9 : w1.cell? ⟨R, 9, none⟩ = some (.string ⟨#[]⟩) := cell_of b2 9 rfl
      have zf9 := b2.frozen 9
      have zs9 := set_same zc9
      have zc10 : w1.cell? ⟨R, 10, none⟩ = some (.int .i64 0) := cell_of b2 10 rfl
      have zf10 := b2.frozen 10
      have zs10 := set_same zc10
      have zc11 : w1.cell? ⟨R, 11, none⟩ = some (.slice none 0 0) := cell_of b2 11 rfl
      have zf11 := b2.frozen 11
      have zs11 := set_same zc11
      clear b2 he
      go_wp2
      exact bodyPost_ret (ret_get _ _ R .zero none 0 _ rfl rfl B2.out) rfl (frRes_zero HX.out K2.out)
end Go.Proofs.YtlfmpoinjbmjoaaGreatDoor
