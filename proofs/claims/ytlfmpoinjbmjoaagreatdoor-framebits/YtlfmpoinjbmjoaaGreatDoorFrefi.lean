/-
  The walk of the document's Get of a frame. Written by wip/mkfrefi.py.
-/
import Derived.Test.YtlfmpoinjbmjoaaGreatDoorKref2
import Derived.Test.YtlfmpoinjbmjoaaGreatDoorVref4
import Derived.Test.YtlfmpoinjbmjoaaGreatDoorFref
namespace Go.Proofs.YtlfmpoinjbmjoaaGreatDoor
open Go.ChangeShapes Go.WideShapes Go.ChangeAt Go.RowKit

set_option maxHeartbeats 1000000 in
theorem refopen_any (s : ByteArray) (a : Int) (w : World) (hs : s.size ≤ 1000) (h1 : -9223372036854775808 ≤ a) (h2 : a ≤ 9223372036854775807) :
    Calls Tryz.prog 43 #[.string s, .int .i64 a] w fun e w' => e = .returned (tups (Ck.open_ s.data.toList a)) ∧ Kept w w' := by
  have Hl := Lib.hid (size_len s)
  obtain ⟨g1, g2, g3⟩ := Ck.vcut_le s.data.toList a
  rw [Hl.out] at g2
  have Hv : Hid (Ck.open_ s.data.toList a = Ck.openOf s.data.toList (vcut s.data.toList a)) := rfl
  obtain ⟨⟨x, t, e0⟩, hg⟩ : ∃ x, x = vcut s.data.toList a := ⟨_, rfl⟩
  rw [← hg] at g1 g2 g3 Hv
  simp only at g1 g2 g3
  have Hg := Lib.hid hg
  clear hg
  obtain ⟨p, hp, sp, lp⟩ := name_str x
  rw [← sp] at g1
  have Hp := Lib.hid hp
  have Lp := Lib.hid lp
  clear hp sp lp
  go_enter Tryz.func43, Tryz.ntmps43
  go_wp2_with fail
  refine (refcut_any s a _ hs h1 h2).mono ?_
  rintro e w1 ⟨rfl, k1⟩
  rw [← Hg.out]
  unfold tups
  simp only
  rw [Hp.out]
  by_cases b1 : e0 = 0
  · subst b1
    by_cases b2 : s.size - t < 4
    · have b3 : (s.size : Int) < (t : Int) + 4 := by omega
      go_wp2
      go_ret3
      refine ⟨?_, k1⟩
      rw [Hv.out, Ck.openOf, if_neg (by simp), if_pos (by simp only; rw [Hl.out]; exact b2)]
      rfl
    · have b3 : t + 4 ≤ s.size := by omega
      obtain ⟨q, hq, sq, lq⟩ := name_str (Ck.four (Ck.sum p.data.toList))
      have Hq := Lib.hid hq
      have Lq := Lib.hid lq
      clear hq sq lq
      have r1 : (t : Int) ≤ (t : Int) + 4 := by omega
      have r2 : 0 ≤ (t : Int) + 4 := by omega
      have r3 : (t : Int) + 4 ≤ s.size := by omega
      have r4 : ((t : Int) + 4).toNat = t + 4 := by omega
      have r5 : IntKind.i64.wrap ((t : Int) + 4) = (t : Int) + 4 := by rw [IntKind.wrap_i64]; omega
      by_cases b4 : (s.data.toList.drop t).take 4 = Ck.four (Ck.sum x)
      · have hE : ((s.extract t (t + 4)).toList != q.toList) = false := by
          rw [extract_str, toList_eq, toList_eq, Lq.out, Lp.out]
          show ((s.data.toList.drop t).take 4 != Ck.four (Ck.sum x)) = false
          rw [b4]; simp
        have hE' : ((s.extract t (t + 4)).toList == q.toList) = true := by simpa [bne] using hE
        have Hb := Lib.hid b4
        clear b4
        go_wp2_with fail
        go_region_held3 (fun _ => True) (trivial)
          (first
            | (go_at_call 47; refine (refsum_any p _ (by unfold maxLen; omega)).mono ?_; rintro e w2 ⟨rfl, rfl⟩)
            | (go_at_call 46; refine (reffour_any (Ck.sum p.data.toList) _ (Ck.add_lt _ _)).mono ?_; rintro e w3 ⟨rfl, k3⟩; rw [Hq.out]))
        go_wp2
        go_ret3
        refine ⟨?_, (k1.trans (Kept.drew (Kept.refl _))).trans k3⟩
        rw [Hv.out, Ck.openOf, if_neg (by simp), if_neg (by simp only; rw [Hl.out]; exact b2), if_pos Hb.out]
        exact tups_mk p x (t + 4) 0 Hp.out
      · have hE : ((s.extract t (t + 4)).toList != q.toList) = true := by
          rw [extract_str, toList_eq, toList_eq, Lq.out, Lp.out]
          show ((s.data.toList.drop t).take 4 != Ck.four (Ck.sum x)) = true
          rw [bne_iff_ne]; exact b4
        have hE' : ((s.extract t (t + 4)).toList == q.toList) = false := by simpa [bne] using hE
        go_wp2_with fail
        go_region_held3 (fun _ => True) (trivial)
          (first
            | (go_at_call 47; refine (refsum_any p _ (by unfold maxLen; omega)).mono ?_; rintro e w2 ⟨rfl, rfl⟩)
            | (go_at_call 46; refine (reffour_any (Ck.sum p.data.toList) _ (Ck.add_lt _ _)).mono ?_; rintro e w3 ⟨rfl, k3⟩; rw [Hq.out]))
        go_wp2
        go_ret3
        refine ⟨?_, (k1.trans (Kept.drew (Kept.refl _))).trans k3⟩
        rw [Hv.out, Ck.openOf, if_neg (by simp), if_neg (by simp only; rw [Hl.out]; exact b2), if_neg b4]
        rfl
  · go_wp2
    go_ret3
    refine ⟨?_, k1⟩
    rw [Hv.out, Ck.openOf, if_pos b1]
    rfl
end Go.Proofs.YtlfmpoinjbmjoaaGreatDoor

namespace Go.Proofs.YtlfmpoinjbmjoaaGreatDoor
open Go.ChangeShapes Go.WideShapes Go.ChangeAt Go.RowKit

set_option maxHeartbeats 1000000 in
theorem rnum7_any (s : ByteArray) (a : Int) (w : World) (hs : s.size ≤ 1000) (h1 : -9223372036854775808 ≤ a) (h2 : a ≤ 9223372036854775807) :
    Calls Tryz.prog 44 #[.string s, .int .i64 a] w fun r w' => r = .returned (.tuple #[.int .i64 (Ev.clip (vget s.data.toList a).1), .int .i64 (vget s.data.toList a).2.1, .int .i64 (vget s.data.toList a).2.2]) ∧ Kept w w' := by
  have hle := vget_le s.data.toList a
  have CG := Lib.hid (refget_any s a w hs h1 h2)
  generalize vget s.data.toList a = x at hle CG ⊢
  obtain ⟨n, t, e⟩ := x
  unfold tup at CG
  simp only at hle CG ⊢
  obtain ⟨hn, _, _⟩ := hle
  unfold Ev.clip
  by_cases hb : n ≤ 1099511627776
  · have e1 : min n 1099511627777 = n := by omega
    have b1 : ¬ (1099511627776 : Int) < (n : Int) := by omega
    have i1 : IntKind.i64.wrap (n : Int) = (n : Int) := by rw [IntKind.wrap_i64]; omega
    rw [e1]
    clear e1
    go_enter Tryz.func44, Tryz.ntmps44
    go_wp2_with fail
    refine CG.out.mono ?_
    rintro r w1 ⟨rfl, k1⟩
    have K1 := Lib.hid k1
    clear k1 CG
    go_wp2
    go_ret3
    exact ⟨rfl, K1.out⟩
  · have e1 : min n 1099511627777 = 1099511627777 := by omega
    have b1 : (1099511627776 : Int) < (n : Int) := by omega
    have i1 : IntKind.i64.wrap (1099511627777 : Int) = (1099511627777 : Int) := by rw [IntKind.wrap_i64]; omega
    rw [e1]
    clear e1
    go_enter Tryz.func44, Tryz.ntmps44
    go_wp2_with fail
    refine CG.out.mono ?_
    rintro r w1 ⟨rfl, k1⟩
    have K1 := Lib.hid k1
    clear k1 CG
    go_wp2
    go_ret3
    exact ⟨rfl, K1.out⟩

/-- what rest answers -/
def RestRes (w : World) (G : Fr.F × Nat × Nat) (r : Ending) (w' : World) : Prop :=
  ∃ (F : Fr.F) (av : Option Addr) (c t : Nat), r = .returned (.tuple #[frv F av c, .int .i64 t, .int .i64 G.2.2]) ∧ (G.2.2 = 0 → F = G.1 ∧ t = G.2.1 ∧ MkS w' av c F.ms) ∧ Kept w w'
/-- a frame that has a kind and an epoch alone -/
def bare (k ep : Int) : Fr.F := { Fr.F.zero with k := k, ep := ep }
theorem blk_rule {w : World} {R : Nat} {cs : Array Value} {t : TypeId} (h : Blk w R cs t) : ∀ i, w.cell? ⟨R, i, none⟩ = cs[i]? := fun i => by
  have h' : w.heap[R]? = some (.cells cs t (0, 0)) := h
  simp [World.cell?, h']
theorem ret_rest (tmps : Array Value) (W : World) (R : Nat) (f : Fr.F) (av : Option Addr) (cap : Nat) (t e : Int) (h2 : tmps[6]? = some (.pointer (some ⟨R, 0, none⟩))) (h3 : tmps[7]? = some (.int .i64 t)) (h4 : tmps[8]? = some (.int .i64 e)) (hb : Blk W R (frc f av cap) 26) :
    (results Tryz.f45 tmps).run Tryz.prog W = .ok (.tuple #[frv f av cap, .int .i64 t, .int .i64 e]) W := by
  have c := blk_rule hb
  unfold frc at c
  simp [results, Tryz.f45, go_sem, h2, h3, h4, frv, frc, c]
theorem mks_sets {w : World} {R : Nat} {av : Option Addr} {cap : Nat} {ms : List Ev.M} (h : MkS w av cap ms) (hlow : ms = [] ∨ ∀ x, av = some x → x.block ≠ R) (v0 v1 v2 v3 v4 v5 v6 v7 v8 v9 v10 v11 : Value) :
    MkS ((((((((((((w.setCell ⟨R, 0, none⟩ v0).setCell ⟨R, 1, none⟩ v1).setCell ⟨R, 2, none⟩ v2).setCell ⟨R, 3, none⟩ v3).setCell ⟨R, 4, none⟩ v4).setCell ⟨R, 5, none⟩ v5).setCell ⟨R, 6, none⟩ v6).setCell ⟨R, 7, none⟩ v7).setCell ⟨R, 8, none⟩ v8).setCell ⟨R, 9, none⟩ v9).setCell ⟨R, 10, none⟩ v10).setCell ⟨R, 11, none⟩ v11) av cap ms :=
  mks_set (mks_set (mks_set (mks_set (mks_set (mks_set (mks_set (mks_set (mks_set (mks_set (mks_set (mks_set h hlow 0 v0) hlow 1 v1) hlow 2 v2) hlow 3 v3) hlow 4 v4) hlow 5 v5) hlow 6 v6) hlow 7 v7) hlow 8 v8) hlow 9 v9) hlow 10 v10) hlow 11 v11
theorem kept_set {w0 w : World} {g : Nat} (k : Kept w0 w) (hg : w0.heap.size ≤ g) (i : Nat) (v : Value) : Kept w0 (w.setCell ⟨g, i, none⟩ v) :=
  But.after k (⟨rfl, rfl, rfl, by simp [World.setCell], fun j _ hn => Below.heap_setCell w ⟨g, i, none⟩ _ j hn⟩ : But (fun j => j = g) w (w.setCell ⟨g, i, none⟩ v)) fun j hj e => by omega

set_option maxHeartbeats 2000000 in
set_option maxRecDepth 100000 in
theorem rest7_5 (s : ByteArray) (a : Nat) (ep : Int) (w : World) (_hs : s.size ≤ 1000) (_ha : a ≤ s.size) :
    Calls Tryz.prog 45 #[frv (bare 5 ep) none 0, .string s, .int .i64 a] w (RestRes w (Fr.gets [] s.data.toList (bare 5 ep, a, 0))) := by
  have b0 := (Blk.made w (frc (bare 5 ep) none 0) 26).alloc (.cells zcs 26)
  have r0 := Blk.made (w.alloc (.cells (frc (bare 5 ep) none 0) 26)) zcs 26
  rw [World.size_alloc] at r0
  have k0 : Kept w ((w.alloc (.cells (frc (bare 5 ep) none 0) 26)).alloc (.cells zcs 26)) := ((Kept.refl w).alloc _).alloc _
  have hsz : ((w.alloc (.cells (frc (bare 5 ep) none 0) 26)).alloc (.cells zcs 26)).heap.size = w.heap.size + 2 := by rw [World.size_alloc, World.size_alloc]
  obtain ⟨W, hW⟩ : ∃ W, W = (w.alloc (.cells (frc (bare 5 ep) none 0) 26)).alloc (.cells zcs 26) := ⟨_, rfl⟩
  rw [← hW] at b0 r0 k0 hsz
  rw [show frc (bare 5 ep) none 0 = #[.int .i64 5, .int .i64 ep, .int .i64 0, .int .i64 0, .bool false, .string ⟨#[]⟩, .int .i64 0, .int .i64 0, .string ⟨#[]⟩, .string ⟨#[]⟩, .int .i64 0, .slice none 0 0] from rfl] at b0
  have B0 := Lib.hid b0
  have R0 := Lib.hid r0
  have K0 := Lib.hid k0
  have HSZ := Lib.hid hsz
  have hsl := size_len s
  rw [show frv (bare 5 ep) none 0 = .agg #[.int .i64 5, .int .i64 ep, .int .i64 0, .int .i64 0, .bool false, .string ⟨#[]⟩, .int .i64 0, .int .i64 0, .string ⟨#[]⟩, .string ⟨#[]⟩, .int .i64 0, .slice none 0 0] from rfl]
  rw [show frc (bare 5 ep) none 0 = #[.int .i64 5, .int .i64 ep, .int .i64 0, .int .i64 0, .bool false, .string ⟨#[]⟩, .int .i64 0, .int .i64 0, .string ⟨#[]⟩, .string ⟨#[]⟩, .int .i64 0, .slice none 0 0] from rfl] at hW
  unfold zcs at hW
  clear b0 r0 k0 hsz
  go_enter Tryz.func45, Tryz.ntmps45
  go_wp2
  have hb : Blk ((w.alloc (.cells (frc (bare 5 ep) none 0) 26)).alloc (.cells (frc (bare 5 ep) none 0) 26)) (w.heap.size + 1) (frc (bare 5 ep) none 0) 26 := by
    have := Blk.made (w.alloc (.cells (frc (bare 5 ep) none 0) 26)) (frc (bare 5 ep) none 0) 26
    rwa [World.size_alloc] at this
  exact bodyPost_ret (ret_rest _ _ (w.heap.size + 1) (bare 5 ep) none 0 a 0 rfl rfl rfl hb) rfl ⟨bare 5 ep, none, 0, a, rfl, fun _ => ⟨rfl, rfl, MkS.nil _⟩, ((Kept.refl w).alloc _).alloc _⟩

set_option maxHeartbeats 2000000 in
set_option maxRecDepth 100000 in
theorem rest7_1 (s : ByteArray) (a : Nat) (ep : Int) (w : World) (hs : s.size ≤ 1000) (ha : a ≤ s.size) :
    Calls Tryz.prog 45 #[frv (bare 1 ep) none 0, .string s, .int .i64 a] w (RestRes w (Fr.gets [.ms] s.data.toList (bare 1 ep, a, 0))) := by
  have b0 := (Blk.made w (frc (bare 1 ep) none 0) 26).alloc (.cells zcs 26)
  have r0 := Blk.made (w.alloc (.cells (frc (bare 1 ep) none 0) 26)) zcs 26
  rw [World.size_alloc] at r0
  have k0 : Kept w ((w.alloc (.cells (frc (bare 1 ep) none 0) 26)).alloc (.cells zcs 26)) := ((Kept.refl w).alloc _).alloc _
  have hsz : ((w.alloc (.cells (frc (bare 1 ep) none 0) 26)).alloc (.cells zcs 26)).heap.size = w.heap.size + 2 := by rw [World.size_alloc, World.size_alloc]
  obtain ⟨W, hW⟩ : ∃ W, W = (w.alloc (.cells (frc (bare 1 ep) none 0) 26)).alloc (.cells zcs 26) := ⟨_, rfl⟩
  rw [← hW] at b0 r0 k0 hsz
  rw [show frc (bare 1 ep) none 0 = #[.int .i64 1, .int .i64 ep, .int .i64 0, .int .i64 0, .bool false, .string ⟨#[]⟩, .int .i64 0, .int .i64 0, .string ⟨#[]⟩, .string ⟨#[]⟩, .int .i64 0, .slice none 0 0] from rfl] at b0
  have B0 := Lib.hid b0
  have R0 := Lib.hid r0
  have K0 := Lib.hid k0
  have HSZ := Lib.hid hsz
  have hsl := size_len s
  have cc := rcut_new s a W hs (by omega) (by omega)
  have hG : Fr.gets [.ms] s.data.toList (bare 1 ep, a, 0) = ({ bare 1 ep with ms := (Ev.mcut s.data.toList a).1 }, (Ev.mcut s.data.toList a).2) := rfl
  obtain ⟨⟨ms, t, e⟩, hx⟩ : ∃ x, x = Ev.mcut s.data.toList a := ⟨_, rfl⟩
  rw [← hx] at cc hG
  simp only at hG
  unfold CutNew at cc
  simp only at cc
  have CC := Lib.hid cc
  have HG := Lib.hid hG
  clear cc hG hx
  rw [show frv (bare 1 ep) none 0 = .agg #[.int .i64 1, .int .i64 ep, .int .i64 0, .int .i64 0, .bool false, .string ⟨#[]⟩, .int .i64 0, .int .i64 0, .string ⟨#[]⟩, .string ⟨#[]⟩, .int .i64 0, .slice none 0 0] from rfl]
  rw [show frc (bare 1 ep) none 0 = #[.int .i64 1, .int .i64 ep, .int .i64 0, .int .i64 0, .bool false, .string ⟨#[]⟩, .int .i64 0, .int .i64 0, .string ⟨#[]⟩, .string ⟨#[]⟩, .int .i64 0, .slice none 0 0] from rfl] at hW
  unfold zcs at hW
  clear b0 r0 k0 hsz
  go_enter Tryz.func45, Tryz.ntmps45
  go_wp2_with fail
  rw [← hW]
  refine CC.out.mono ?_
  rintro r w2 ⟨av2, c2, rfl, m2, k2, hnew⟩
  clear hW CC
  have B2 := Lib.hid (B0.out.kept k2)
  have R2 := Lib.hid (R0.out.kept k2)
  have K2 := Lib.hid (K0.out.trans k2)
  have hlow : ∀ g, g < W.heap.size → ms = [] ∨ ∀ x, av2 = some x → x.block ≠ g := fun g hg => hnew.imp id fun h x hx => by have := h x hx; omega
  have hl0 := hlow w.heap.size (by have := HSZ.out; omega)
  have hl1 := hlow (w.heap.size + 1) (by have := HSZ.out; omega)
  clear k2 B0 R0 K0 hnew hlow
  have YB : Hid (Blk (w2.setCell ⟨w.heap.size, 11, none⟩ (.slice av2 ms.length c2)) w.heap.size #[.int .i64 1, .int .i64 ep, .int .i64 0, .int .i64 0, .bool false, .string ⟨#[]⟩, .int .i64 0, .int .i64 0, .string ⟨#[]⟩, .string ⟨#[]⟩, .int .i64 0, .slice av2 ms.length c2] 26) := (B2.out).set 11 (.slice av2 ms.length c2)
  have YR := Lib.hid ((R2.out).far ⟨w.heap.size, 11, none⟩ (.slice av2 ms.length c2) (Nat.succ_ne_self _))
  have YK := Lib.hid (kept_set (K2.out) (Nat.le_refl _) 11 (.slice av2 ms.length c2))
  have YM := Lib.hid (mks_set m2 hl0 11 (.slice av2 ms.length c2))
  clear m2 R2 K2
  have zb := B2.out.cell
  have zf := B2.out.frozen
  have yb := YB.out.cell
  have yr := YR.out.cell
  have yf := YR.out.frozen
  unfold zcs at yr
  go_wp2
  have bx := fr_sets YR.out ((⟨1, ep, 0, 0, false, ⟨#[]⟩, ⟨0, 0, ⟨#[]⟩, ⟨#[]⟩, 0⟩, ms⟩ : Fr.F)) av2 c2
  exact bodyPost_ret (ret_rest _ _ (w.heap.size + 1) ((⟨1, ep, 0, 0, false, ⟨#[]⟩, ⟨0, 0, ⟨#[]⟩, ⟨#[]⟩, 0⟩, ms⟩ : Fr.F)) av2 c2 t e rfl rfl rfl bx) rfl ⟨(⟨1, ep, 0, 0, false, ⟨#[]⟩, ⟨0, 0, ⟨#[]⟩, ⟨#[]⟩, 0⟩, ms⟩ : Fr.F), av2, c2, t, by first | rfl | (rw [HG.out]), fun _ => ⟨by rw [HG.out]; rfl, by rw [HG.out], mks_sets YM.out hl1 _ _ _ _ _ _ _ _ _ _ _ _⟩, fr_sets_kept YK.out (Nat.le_succ _) _ _ _ _ _ _ _ _ _ _ _ _⟩

set_option maxHeartbeats 2000000 in
set_option maxRecDepth 100000 in
theorem rest7_4 (s : ByteArray) (a : Nat) (ep : Int) (w : World) (hs : s.size ≤ 1000) (ha : a ≤ s.size) :
    Calls Tryz.prog 45 #[frv (bare 4 ep) none 0, .string s, .int .i64 a] w (RestRes w (Fr.gets [.sq 0, .cr] s.data.toList (bare 4 ep, a, 0))) := by
  have b0 := (Blk.made w (frc (bare 4 ep) none 0) 26).alloc (.cells zcs 26)
  have r0 := Blk.made (w.alloc (.cells (frc (bare 4 ep) none 0) 26)) zcs 26
  rw [World.size_alloc] at r0
  have k0 : Kept w ((w.alloc (.cells (frc (bare 4 ep) none 0) 26)).alloc (.cells zcs 26)) := ((Kept.refl w).alloc _).alloc _
  have hsz : ((w.alloc (.cells (frc (bare 4 ep) none 0) 26)).alloc (.cells zcs 26)).heap.size = w.heap.size + 2 := by rw [World.size_alloc, World.size_alloc]
  obtain ⟨W, hW⟩ : ∃ W, W = (w.alloc (.cells (frc (bare 4 ep) none 0) 26)).alloc (.cells zcs 26) := ⟨_, rfl⟩
  rw [← hW] at b0 r0 k0 hsz
  rw [show frc (bare 4 ep) none 0 = #[.int .i64 4, .int .i64 ep, .int .i64 0, .int .i64 0, .bool false, .string ⟨#[]⟩, .int .i64 0, .int .i64 0, .string ⟨#[]⟩, .string ⟨#[]⟩, .int .i64 0, .slice none 0 0] from rfl] at b0
  have B0 := Lib.hid b0
  have R0 := Lib.hid r0
  have K0 := Lib.hid k0
  have HSZ := Lib.hid hsz
  have hsl := size_len s
  have cn := rnum7_any s a W hs (by omega) (by omega)
  have hle := vget_le s.data.toList a
  have hG1 : (vget s.data.toList a).2.2 ≠ 0 → (Fr.gets [.sq 0, .cr] s.data.toList (bare 4 ep, a, 0)).2.2 = (vget s.data.toList a).2.2 := fun h => by
    show (Fr.step s.data.toList ({ bare 4 ep with sq := Ev.clip (vget s.data.toList a).1 }, (vget s.data.toList a).2) (.cr)).2.2 = _
    unfold Fr.step
    rw [if_neg h]
  have hG2 : (vget s.data.toList a).2.2 = 0 → Fr.gets [.sq 0, .cr] s.data.toList (bare 4 ep, a, 0) = ({ bare 4 ep with sq := Ev.clip (vget s.data.toList a).1, cr := Ev.clip (vget s.data.toList (vget s.data.toList a).2.1).1 }, (vget s.data.toList (vget s.data.toList a).2.1).2) := fun h => by
    show Fr.step s.data.toList ({ bare 4 ep with sq := Ev.clip (vget s.data.toList a).1 }, (vget s.data.toList a).2) (.cr) = _
    unfold Fr.step
    rw [if_pos h]
    rfl
  obtain ⟨⟨x, t1, e1⟩, hx⟩ : ∃ x, x = vget s.data.toList a := ⟨_, rfl⟩
  rw [← hx] at cn hle hG1 hG2
  simp only at cn hle hG1 hG2
  rw [hsl] at hle
  have hle2 := hle.2.1
  have CN := Lib.hid cn
  have HG1 := Lib.hid hG1
  have HG2 := Lib.hid hG2
  clear cn hle hG1 hG2 hx
  rw [show frv (bare 4 ep) none 0 = .agg #[.int .i64 4, .int .i64 ep, .int .i64 0, .int .i64 0, .bool false, .string ⟨#[]⟩, .int .i64 0, .int .i64 0, .string ⟨#[]⟩, .string ⟨#[]⟩, .int .i64 0, .slice none 0 0] from rfl]
  rw [show frc (bare 4 ep) none 0 = #[.int .i64 4, .int .i64 ep, .int .i64 0, .int .i64 0, .bool false, .string ⟨#[]⟩, .int .i64 0, .int .i64 0, .string ⟨#[]⟩, .string ⟨#[]⟩, .int .i64 0, .slice none 0 0] from rfl] at hW
  unfold zcs at hW
  clear b0 r0 k0 hsz
  go_enter Tryz.func45, Tryz.ntmps45
  go_wp2_with fail
  rw [← hW]
  refine CN.out.mono ?_
  rintro r w2 ⟨rfl, k2⟩
  clear hW CN
  have B2 := Lib.hid (B0.out.kept k2)
  have R2 := Lib.hid (R0.out.kept k2)
  have K2 := Lib.hid (K0.out.trans k2)
  have HS2 : Hid (w.heap.size + 2 ≤ w2.heap.size) := by have h1 := k2.size; have h2 := HSZ.out; show _ ≤ _; omega
  clear k2 B0 R0 K0
  by_cases he : e1 = 0
  · subst he
    have HG := Lib.hid (HG2.out rfl)
    clear HG1 HG2
    have cm := rnum7_any s t1 w2 hs (by omega) (by omega)
    obtain ⟨⟨y, t2, e2⟩, hy⟩ : ∃ y, y = vget s.data.toList t1 := ⟨_, rfl⟩
    have hg := HG.out
    rw [← hy] at cm hg
    simp only at cm hg
    have CM := Lib.hid cm
    clear HG
    have HG := Lib.hid hg
    clear cm hg hy
    go_wp2_with fail
    refine (CM.out).mono ?_
    rintro r w3 ⟨rfl, k3⟩
    have B3 := Lib.hid (B2.out.kept k3)
    have R3 := Lib.hid (R2.out.kept k3)
    have K3 := Lib.hid (K2.out.trans k3)
    clear k3 B2 R2 K2
    have yb0 := B3.out
    have yb1 : Blk (w3.setCell ⟨w.heap.size, 2, none⟩ (.int .i64 (Ev.clip x))) w.heap.size #[.int .i64 4, .int .i64 ep, .int .i64 (Ev.clip x), .int .i64 0, .bool false, .string ⟨#[]⟩, .int .i64 0, .int .i64 0, .string ⟨#[]⟩, .string ⟨#[]⟩, .int .i64 0, .slice none 0 0] 26 := yb0.set 2 (.int .i64 (Ev.clip x))
    have yb2 : Blk ((w3.setCell ⟨w.heap.size, 2, none⟩ (.int .i64 (Ev.clip x))).setCell ⟨w.heap.size, 3, none⟩ (.int .i64 (Ev.clip y))) w.heap.size #[.int .i64 4, .int .i64 ep, .int .i64 (Ev.clip x), .int .i64 (Ev.clip y), .bool false, .string ⟨#[]⟩, .int .i64 0, .int .i64 0, .string ⟨#[]⟩, .string ⟨#[]⟩, .int .i64 0, .slice none 0 0] 26 := yb1.set 3 (.int .i64 (Ev.clip y))
    have YB := Lib.hid yb2
    have YR := Lib.hid (((R3.out).far ⟨w.heap.size, 2, none⟩ (.int .i64 (Ev.clip x)) (Nat.succ_ne_self _)).far ⟨w.heap.size, 3, none⟩ (.int .i64 (Ev.clip y)) (Nat.succ_ne_self _))
    have YK := Lib.hid (kept_set (kept_set (K3.out) (Nat.le_refl _) 2 (.int .i64 (Ev.clip x))) (Nat.le_refl _) 3 (.int .i64 (Ev.clip y)))
    clear R3 K3 yb0 yb1 yb2
    have zb := B3.out.cell
    have zf := B3.out.frozen
    have yb := YB.out.cell
    have yr := YR.out.cell
    have yf := YR.out.frozen
    unfold zcs at yr
    go_wp2
    have bx := fr_sets YR.out ((⟨4, ep, (Ev.clip x), (Ev.clip y), false, ⟨#[]⟩, ⟨0, 0, ⟨#[]⟩, ⟨#[]⟩, 0⟩, []⟩ : Fr.F)) none 0
    exact bodyPost_ret (ret_rest _ _ (w.heap.size + 1) ((⟨4, ep, (Ev.clip x), (Ev.clip y), false, ⟨#[]⟩, ⟨0, 0, ⟨#[]⟩, ⟨#[]⟩, 0⟩, []⟩ : Fr.F)) none 0 t2 e2 rfl rfl rfl bx) rfl ⟨(⟨4, ep, (Ev.clip x), (Ev.clip y), false, ⟨#[]⟩, ⟨0, 0, ⟨#[]⟩, ⟨#[]⟩, 0⟩, []⟩ : Fr.F), none, 0, t2, by first | rfl | (rw [HG.out]; done) | (rw [HG.out]; rfl), fun _ => ⟨by rw [HG.out]; rfl, by rw [HG.out], MkS.nil _⟩, fr_sets_kept YK.out (Nat.le_succ _) _ _ _ _ _ _ _ _ _ _ _ _⟩
  · have HG : Hid ((Fr.gets [.sq 0, .cr] s.data.toList (bare 4 ep, a, 0)).2.2 = e1) := HG1.out he
    have he1 : ((e1 : Int) == 0) = false := by rw [beq_eq_false_iff_ne]; omega
    have he2 : ((e1 : Int) != 0) = true := by simp only [bne, he1]; rfl
    clear HG1 HG2
    have yb0 := B2.out
    have YB := Lib.hid yb0
    have YR := Lib.hid (R2.out)
    have YK := Lib.hid (K2.out)
    clear R2 K2 yb0
    have zb := B2.out.cell
    have zf := B2.out.frozen
    have yb := YB.out.cell
    have yr := YR.out.cell
    have yf := YR.out.frozen
    unfold zcs at yr
    go_wp2
    have bx := fr_sets YR.out ((⟨4, ep, 0, 0, false, ⟨#[]⟩, ⟨0, 0, ⟨#[]⟩, ⟨#[]⟩, 0⟩, []⟩ : Fr.F)) none 0
    exact bodyPost_ret (ret_rest _ _ (w.heap.size + 1) ((⟨4, ep, 0, 0, false, ⟨#[]⟩, ⟨0, 0, ⟨#[]⟩, ⟨#[]⟩, 0⟩, []⟩ : Fr.F)) none 0 0 e1 rfl rfl rfl bx) rfl ⟨(⟨4, ep, 0, 0, false, ⟨#[]⟩, ⟨0, 0, ⟨#[]⟩, ⟨#[]⟩, 0⟩, []⟩ : Fr.F), none, 0, 0, by first | rfl | (rw [HG.out]; done) | (rw [HG.out]; rfl), fun h0 => absurd (HG.out.symm.trans h0) he, fr_sets_kept YK.out (Nat.le_succ _) _ _ _ _ _ _ _ _ _ _ _ _⟩

set_option maxHeartbeats 2000000 in
set_option maxRecDepth 100000 in
theorem rest7_3 (s : ByteArray) (a : Nat) (ep : Int) (w : World) (hs : s.size ≤ 1000) (ha : a ≤ s.size) :
    Calls Tryz.prog 45 #[frv (bare 3 ep) none 0, .string s, .int .i64 a] w (RestRes w (Fr.gets [.sq 1, .ev] s.data.toList (bare 3 ep, a, 0))) := by
  have b0 := (Blk.made w (frc (bare 3 ep) none 0) 26).alloc (.cells zcs 26)
  have r0 := Blk.made (w.alloc (.cells (frc (bare 3 ep) none 0) 26)) zcs 26
  rw [World.size_alloc] at r0
  have k0 : Kept w ((w.alloc (.cells (frc (bare 3 ep) none 0) 26)).alloc (.cells zcs 26)) := ((Kept.refl w).alloc _).alloc _
  have hsz : ((w.alloc (.cells (frc (bare 3 ep) none 0) 26)).alloc (.cells zcs 26)).heap.size = w.heap.size + 2 := by rw [World.size_alloc, World.size_alloc]
  obtain ⟨W, hW⟩ : ∃ W, W = (w.alloc (.cells (frc (bare 3 ep) none 0) 26)).alloc (.cells zcs 26) := ⟨_, rfl⟩
  rw [← hW] at b0 r0 k0 hsz
  rw [show frc (bare 3 ep) none 0 = #[.int .i64 3, .int .i64 ep, .int .i64 0, .int .i64 0, .bool false, .string ⟨#[]⟩, .int .i64 0, .int .i64 0, .string ⟨#[]⟩, .string ⟨#[]⟩, .int .i64 0, .slice none 0 0] from rfl] at b0
  have B0 := Lib.hid b0
  have R0 := Lib.hid r0
  have K0 := Lib.hid k0
  have HSZ := Lib.hid hsz
  have hsl := size_len s
  have cn := rnum7_any s a W hs (by omega) (by omega)
  have hle := vget_le s.data.toList a
  have hG1 : (vget s.data.toList a).2.2 ≠ 0 → (Fr.gets [.sq 1, .ev] s.data.toList (bare 3 ep, a, 0)).2.2 = (vget s.data.toList a).2.2 := fun h => by
    show (Fr.step s.data.toList ({ bare 3 ep with sq := Ev.clip (vget s.data.toList a).1 }, (vget s.data.toList a).2) (.ev)).2.2 = _
    unfold Fr.step
    rw [if_neg h]
  have hG2 : (vget s.data.toList a).2.2 = 0 → Fr.gets [.sq 1, .ev] s.data.toList (bare 3 ep, a, 0) = ({ bare 3 ep with sq := Ev.clip (vget s.data.toList a).1, e := (Ev.get s.data.toList (vget s.data.toList a).2.1).1 }, (Ev.get s.data.toList (vget s.data.toList a).2.1).2) := fun h => by
    show Fr.step s.data.toList ({ bare 3 ep with sq := Ev.clip (vget s.data.toList a).1 }, (vget s.data.toList a).2) (.ev) = _
    unfold Fr.step
    rw [if_pos h]
    rfl
  obtain ⟨⟨x, t1, e1⟩, hx⟩ : ∃ x, x = vget s.data.toList a := ⟨_, rfl⟩
  rw [← hx] at cn hle hG1 hG2
  simp only at cn hle hG1 hG2
  rw [hsl] at hle
  have hle2 := hle.2.1
  have CN := Lib.hid cn
  have HG1 := Lib.hid hG1
  have HG2 := Lib.hid hG2
  clear cn hle hG1 hG2 hx
  rw [show frv (bare 3 ep) none 0 = .agg #[.int .i64 3, .int .i64 ep, .int .i64 0, .int .i64 0, .bool false, .string ⟨#[]⟩, .int .i64 0, .int .i64 0, .string ⟨#[]⟩, .string ⟨#[]⟩, .int .i64 0, .slice none 0 0] from rfl]
  rw [show frc (bare 3 ep) none 0 = #[.int .i64 3, .int .i64 ep, .int .i64 0, .int .i64 0, .bool false, .string ⟨#[]⟩, .int .i64 0, .int .i64 0, .string ⟨#[]⟩, .string ⟨#[]⟩, .int .i64 0, .slice none 0 0] from rfl] at hW
  unfold zcs at hW
  clear b0 r0 k0 hsz
  go_enter Tryz.func45, Tryz.ntmps45
  go_wp2_with fail
  rw [← hW]
  refine CN.out.mono ?_
  rintro r w2 ⟨rfl, k2⟩
  clear hW CN
  have B2 := Lib.hid (B0.out.kept k2)
  have R2 := Lib.hid (R0.out.kept k2)
  have K2 := Lib.hid (K0.out.trans k2)
  have HS2 : Hid (w.heap.size + 2 ≤ w2.heap.size) := by have h1 := k2.size; have h2 := HSZ.out; show _ ≤ _; omega
  clear k2 B0 R0 K0
  by_cases he : e1 = 0
  · subst he
    have HG := Lib.hid (HG2.out rfl)
    clear HG1 HG2
    have cm := rget_any s t1 w2 hs (by omega) (by omega)
    obtain ⟨⟨⟨yo, ys, yt, yl, yd⟩, t2, e2⟩, hy⟩ : ∃ y, y = Ev.get s.data.toList t1 := ⟨_, rfl⟩
    have hg := HG.out
    rw [← hy] at cm hg
    unfold tupe evv at cm
    simp only at cm hg
    have CM := Lib.hid cm
    clear HG
    have HG := Lib.hid hg
    clear cm hg hy
    go_wp2_with fail
    refine (CM.out).mono ?_
    rintro r w3 ⟨rfl, k3⟩
    have B3 := Lib.hid (B2.out.kept k3)
    have R3 := Lib.hid (R2.out.kept k3)
    have K3 := Lib.hid (K2.out.trans k3)
    have hX2 : w.heap.size + 2 ≤ w3.heap.size := Nat.le_trans HS2.out k3.size
    have ka := (Kept.refl w3).alloc (.cells #[.int .i64 yo, .int .i64 ys, .string yt, .string yl, .int .i64 yd] 23)
    have EV := Lib.hid (Blk.made w3 #[.int .i64 yo, .int .i64 ys, .string yt, .string yl, .int .i64 yd] 23)
    have B4 := Lib.hid (B3.out.kept ka)
    have R4 := Lib.hid (R3.out.kept ka)
    have K4 := Lib.hid (K3.out.trans ka)
    clear k3 B2 R2 K2 ka B3 R3 K3
    go_upto_region 19 with fail
    obtain ⟨X, hX⟩ : ∃ X, X = w3.heap.size := ⟨_, rfl⟩
    rw [← hX] at EV hX2 ⊢
    clear hX
    generalize w3.alloc (.cells #[.int .i64 yo, .int .i64 ys, .string yt, .string yl, .int .i64 yd] 23) = w4 at EV B4 R4 K4 ⊢
    have x0 : (w4.setCell ⟨w.heap.size, 2, none⟩ (.int .i64 (Ev.clip x))).cell? ⟨X, 0, none⟩ = some (.int .i64 yo) := (EV.out.far ⟨w.heap.size, 2, none⟩ (.int .i64 (Ev.clip x)) (by show X ≠ w.heap.size; omega)).cell 0
    have x1 : (w4.setCell ⟨w.heap.size, 2, none⟩ (.int .i64 (Ev.clip x))).cell? ⟨X, 1, none⟩ = some (.int .i64 ys) := (EV.out.far ⟨w.heap.size, 2, none⟩ (.int .i64 (Ev.clip x)) (by show X ≠ w.heap.size; omega)).cell 1
    have x2 : (w4.setCell ⟨w.heap.size, 2, none⟩ (.int .i64 (Ev.clip x))).cell? ⟨X, 2, none⟩ = some (.string yt) := (EV.out.far ⟨w.heap.size, 2, none⟩ (.int .i64 (Ev.clip x)) (by show X ≠ w.heap.size; omega)).cell 2
    have x3 : (w4.setCell ⟨w.heap.size, 2, none⟩ (.int .i64 (Ev.clip x))).cell? ⟨X, 3, none⟩ = some (.string yl) := (EV.out.far ⟨w.heap.size, 2, none⟩ (.int .i64 (Ev.clip x)) (by show X ≠ w.heap.size; omega)).cell 3
    have x4 : (w4.setCell ⟨w.heap.size, 2, none⟩ (.int .i64 (Ev.clip x))).cell? ⟨X, 4, none⟩ = some (.int .i64 yd) := (EV.out.far ⟨w.heap.size, 2, none⟩ (.int .i64 (Ev.clip x)) (by show X ≠ w.heap.size; omega)).cell 4
    clear EV hX2
    have yb0 := B4.out
    have yb1 : Blk (w4.setCell ⟨w.heap.size, 2, none⟩ (.int .i64 (Ev.clip x))) w.heap.size #[.int .i64 3, .int .i64 ep, .int .i64 (Ev.clip x), .int .i64 0, .bool false, .string ⟨#[]⟩, .int .i64 0, .int .i64 0, .string ⟨#[]⟩, .string ⟨#[]⟩, .int .i64 0, .slice none 0 0] 26 := yb0.set 2 (.int .i64 (Ev.clip x))
    have yb2 : Blk ((w4.setCell ⟨w.heap.size, 2, none⟩ (.int .i64 (Ev.clip x))).setCell ⟨w.heap.size, 6, none⟩ (.int .i64 yo)) w.heap.size #[.int .i64 3, .int .i64 ep, .int .i64 (Ev.clip x), .int .i64 0, .bool false, .string ⟨#[]⟩, .int .i64 yo, .int .i64 0, .string ⟨#[]⟩, .string ⟨#[]⟩, .int .i64 0, .slice none 0 0] 26 := yb1.set 6 (.int .i64 yo)
    have yb3 : Blk (((w4.setCell ⟨w.heap.size, 2, none⟩ (.int .i64 (Ev.clip x))).setCell ⟨w.heap.size, 6, none⟩ (.int .i64 yo)).setCell ⟨w.heap.size, 7, none⟩ (.int .i64 ys)) w.heap.size #[.int .i64 3, .int .i64 ep, .int .i64 (Ev.clip x), .int .i64 0, .bool false, .string ⟨#[]⟩, .int .i64 yo, .int .i64 ys, .string ⟨#[]⟩, .string ⟨#[]⟩, .int .i64 0, .slice none 0 0] 26 := yb2.set 7 (.int .i64 ys)
    have yb4 : Blk ((((w4.setCell ⟨w.heap.size, 2, none⟩ (.int .i64 (Ev.clip x))).setCell ⟨w.heap.size, 6, none⟩ (.int .i64 yo)).setCell ⟨w.heap.size, 7, none⟩ (.int .i64 ys)).setCell ⟨w.heap.size, 8, none⟩ (.string yt)) w.heap.size #[.int .i64 3, .int .i64 ep, .int .i64 (Ev.clip x), .int .i64 0, .bool false, .string ⟨#[]⟩, .int .i64 yo, .int .i64 ys, .string yt, .string ⟨#[]⟩, .int .i64 0, .slice none 0 0] 26 := yb3.set 8 (.string yt)
    have yb5 : Blk (((((w4.setCell ⟨w.heap.size, 2, none⟩ (.int .i64 (Ev.clip x))).setCell ⟨w.heap.size, 6, none⟩ (.int .i64 yo)).setCell ⟨w.heap.size, 7, none⟩ (.int .i64 ys)).setCell ⟨w.heap.size, 8, none⟩ (.string yt)).setCell ⟨w.heap.size, 9, none⟩ (.string yl)) w.heap.size #[.int .i64 3, .int .i64 ep, .int .i64 (Ev.clip x), .int .i64 0, .bool false, .string ⟨#[]⟩, .int .i64 yo, .int .i64 ys, .string yt, .string yl, .int .i64 0, .slice none 0 0] 26 := yb4.set 9 (.string yl)
    have yb6 : Blk ((((((w4.setCell ⟨w.heap.size, 2, none⟩ (.int .i64 (Ev.clip x))).setCell ⟨w.heap.size, 6, none⟩ (.int .i64 yo)).setCell ⟨w.heap.size, 7, none⟩ (.int .i64 ys)).setCell ⟨w.heap.size, 8, none⟩ (.string yt)).setCell ⟨w.heap.size, 9, none⟩ (.string yl)).setCell ⟨w.heap.size, 10, none⟩ (.int .i64 yd)) w.heap.size #[.int .i64 3, .int .i64 ep, .int .i64 (Ev.clip x), .int .i64 0, .bool false, .string ⟨#[]⟩, .int .i64 yo, .int .i64 ys, .string yt, .string yl, .int .i64 yd, .slice none 0 0] 26 := yb5.set 10 (.int .i64 yd)
    have YB := Lib.hid yb6
    have YR := Lib.hid (((((((R4.out).far ⟨w.heap.size, 2, none⟩ (.int .i64 (Ev.clip x)) (Nat.succ_ne_self _)).far ⟨w.heap.size, 6, none⟩ (.int .i64 yo) (Nat.succ_ne_self _)).far ⟨w.heap.size, 7, none⟩ (.int .i64 ys) (Nat.succ_ne_self _)).far ⟨w.heap.size, 8, none⟩ (.string yt) (Nat.succ_ne_self _)).far ⟨w.heap.size, 9, none⟩ (.string yl) (Nat.succ_ne_self _)).far ⟨w.heap.size, 10, none⟩ (.int .i64 yd) (Nat.succ_ne_self _))
    have YK := Lib.hid (kept_set (kept_set (kept_set (kept_set (kept_set (kept_set (K4.out) (Nat.le_refl _) 2 (.int .i64 (Ev.clip x))) (Nat.le_refl _) 6 (.int .i64 yo)) (Nat.le_refl _) 7 (.int .i64 ys)) (Nat.le_refl _) 8 (.string yt)) (Nat.le_refl _) 9 (.string yl)) (Nat.le_refl _) 10 (.int .i64 yd))
    clear R4 K4 yb0 yb1 yb2 yb3 yb4 yb5 yb6
    have zb0 : w4.cell? ⟨w.heap.size, 0, none⟩ = some (.int .i64 3) := B4.out.cell 0
    have zb1 : w4.cell? ⟨w.heap.size, 1, none⟩ = some (.int .i64 ep) := B4.out.cell 1
    have zb2 : w4.cell? ⟨w.heap.size, 2, none⟩ = some (.int .i64 0) := B4.out.cell 2
    have zb3 : w4.cell? ⟨w.heap.size, 3, none⟩ = some (.int .i64 0) := B4.out.cell 3
    have zb4 : w4.cell? ⟨w.heap.size, 4, none⟩ = some (.bool false) := B4.out.cell 4
    have zb5 : w4.cell? ⟨w.heap.size, 5, none⟩ = some (.string ⟨#[]⟩) := B4.out.cell 5
    have zb6 : w4.cell? ⟨w.heap.size, 6, none⟩ = some (.int .i64 0) := B4.out.cell 6
    have zb7 : w4.cell? ⟨w.heap.size, 7, none⟩ = some (.int .i64 0) := B4.out.cell 7
    have zb8 : w4.cell? ⟨w.heap.size, 8, none⟩ = some (.string ⟨#[]⟩) := B4.out.cell 8
    have zb9 : w4.cell? ⟨w.heap.size, 9, none⟩ = some (.string ⟨#[]⟩) := B4.out.cell 9
    have zb10 : w4.cell? ⟨w.heap.size, 10, none⟩ = some (.int .i64 0) := B4.out.cell 10
    have zb11 : w4.cell? ⟨w.heap.size, 11, none⟩ = some (.slice none 0 0) := B4.out.cell 11
    have zf0 := B4.out.frozen 0
    have zf1 := B4.out.frozen 1
    have zf2 := B4.out.frozen 2
    have zf3 := B4.out.frozen 3
    have zf4 := B4.out.frozen 4
    have zf5 := B4.out.frozen 5
    have zf6 := B4.out.frozen 6
    have zf7 := B4.out.frozen 7
    have zf8 := B4.out.frozen 8
    have zf9 := B4.out.frozen 9
    have zf10 := B4.out.frozen 10
    have zf11 := B4.out.frozen 11
    go_upto_region 21 with fail
    clear zb0 zf0 zb1 zf1 zb2 zf2 zb3 zf3 zb4 zf4 zb5 zf5 zb6 zf6 zb7 zf7 zb8 zf8 zb9 zf9 zb10 zf10 zb11 zf11 x0 x1 x2 x3 x4
    generalize ((((((w4.setCell ⟨w.heap.size, 2, none⟩ (.int .i64 (Ev.clip x))).setCell ⟨w.heap.size, 6, none⟩ (.int .i64 yo)).setCell ⟨w.heap.size, 7, none⟩ (.int .i64 ys)).setCell ⟨w.heap.size, 8, none⟩ (.string yt)).setCell ⟨w.heap.size, 9, none⟩ (.string yl)).setCell ⟨w.heap.size, 10, none⟩ (.int .i64 yd)) = V at YB YR YK ⊢
    clear B4
    have yb := YB.out.cell
    have yr := YR.out.cell
    have yf := YR.out.frozen
    unfold zcs at yr
    go_wp2
    have bx := fr_sets YR.out ((⟨3, ep, (Ev.clip x), 0, false, ⟨#[]⟩, ⟨yo, ys, yt, yl, yd⟩, []⟩ : Fr.F)) none 0
    exact bodyPost_ret (ret_rest _ _ (w.heap.size + 1) ((⟨3, ep, (Ev.clip x), 0, false, ⟨#[]⟩, ⟨yo, ys, yt, yl, yd⟩, []⟩ : Fr.F)) none 0 t2 e2 rfl rfl rfl bx) rfl ⟨(⟨3, ep, (Ev.clip x), 0, false, ⟨#[]⟩, ⟨yo, ys, yt, yl, yd⟩, []⟩ : Fr.F), none, 0, t2, by first | rfl | (rw [HG.out]; done) | (rw [HG.out]; rfl), fun _ => ⟨by rw [HG.out]; rfl, by rw [HG.out], MkS.nil _⟩, fr_sets_kept YK.out (Nat.le_succ _) _ _ _ _ _ _ _ _ _ _ _ _⟩
  · have HG : Hid ((Fr.gets [.sq 1, .ev] s.data.toList (bare 3 ep, a, 0)).2.2 = e1) := HG1.out he
    have he1 : ((e1 : Int) == 0) = false := by rw [beq_eq_false_iff_ne]; omega
    have he2 : ((e1 : Int) != 0) = true := by simp only [bne, he1]; rfl
    clear HG1 HG2
    have yb0 := B2.out
    have YB := Lib.hid yb0
    have YR := Lib.hid (R2.out)
    have YK := Lib.hid (K2.out)
    clear R2 K2 yb0
    have zb := B2.out.cell
    have zf := B2.out.frozen
    have yb := YB.out.cell
    have yr := YR.out.cell
    have yf := YR.out.frozen
    unfold zcs at yr
    go_wp2
    have bx := fr_sets YR.out ((⟨3, ep, 0, 0, false, ⟨#[]⟩, ⟨0, 0, ⟨#[]⟩, ⟨#[]⟩, 0⟩, []⟩ : Fr.F)) none 0
    exact bodyPost_ret (ret_rest _ _ (w.heap.size + 1) ((⟨3, ep, 0, 0, false, ⟨#[]⟩, ⟨0, 0, ⟨#[]⟩, ⟨#[]⟩, 0⟩, []⟩ : Fr.F)) none 0 0 e1 rfl rfl rfl bx) rfl ⟨(⟨3, ep, 0, 0, false, ⟨#[]⟩, ⟨0, 0, ⟨#[]⟩, ⟨#[]⟩, 0⟩, []⟩ : Fr.F), none, 0, 0, by first | rfl | (rw [HG.out]; done) | (rw [HG.out]; rfl), fun h0 => absurd (HG.out.symm.trans h0) he, fr_sets_kept YK.out (Nat.le_succ _) _ _ _ _ _ _ _ _ _ _ _ _⟩

set_option maxHeartbeats 2000000 in
set_option maxRecDepth 100000 in
theorem rest7_2 (s : ByteArray) (a : Nat) (ep : Int) (w : World) (hs : s.size ≤ 1000) (ha : a ≤ s.size) :
    Calls Tryz.prog 45 #[frv (bare 2 ep) none 0, .string s, .int .i64 a] w (RestRes w (Fr.gets [.sq 1, .ms] s.data.toList (bare 2 ep, a, 0))) := by
  have b0 := (Blk.made w (frc (bare 2 ep) none 0) 26).alloc (.cells zcs 26)
  have r0 := Blk.made (w.alloc (.cells (frc (bare 2 ep) none 0) 26)) zcs 26
  rw [World.size_alloc] at r0
  have k0 : Kept w ((w.alloc (.cells (frc (bare 2 ep) none 0) 26)).alloc (.cells zcs 26)) := ((Kept.refl w).alloc _).alloc _
  have hsz : ((w.alloc (.cells (frc (bare 2 ep) none 0) 26)).alloc (.cells zcs 26)).heap.size = w.heap.size + 2 := by rw [World.size_alloc, World.size_alloc]
  obtain ⟨W, hW⟩ : ∃ W, W = (w.alloc (.cells (frc (bare 2 ep) none 0) 26)).alloc (.cells zcs 26) := ⟨_, rfl⟩
  rw [← hW] at b0 r0 k0 hsz
  rw [show frc (bare 2 ep) none 0 = #[.int .i64 2, .int .i64 ep, .int .i64 0, .int .i64 0, .bool false, .string ⟨#[]⟩, .int .i64 0, .int .i64 0, .string ⟨#[]⟩, .string ⟨#[]⟩, .int .i64 0, .slice none 0 0] from rfl] at b0
  have B0 := Lib.hid b0
  have R0 := Lib.hid r0
  have K0 := Lib.hid k0
  have HSZ := Lib.hid hsz
  have hsl := size_len s
  have cn := rnum7_any s a W hs (by omega) (by omega)
  have hle := vget_le s.data.toList a
  have hG1 : (vget s.data.toList a).2.2 ≠ 0 → (Fr.gets [.sq 1, .ms] s.data.toList (bare 2 ep, a, 0)).2.2 = (vget s.data.toList a).2.2 := fun h => by
    show (Fr.step s.data.toList ({ bare 2 ep with sq := Ev.clip (vget s.data.toList a).1 }, (vget s.data.toList a).2) (.ms)).2.2 = _
    unfold Fr.step
    rw [if_neg h]
  have hG2 : (vget s.data.toList a).2.2 = 0 → Fr.gets [.sq 1, .ms] s.data.toList (bare 2 ep, a, 0) = ({ bare 2 ep with sq := Ev.clip (vget s.data.toList a).1, ms := (Ev.mcut s.data.toList (vget s.data.toList a).2.1).1 }, (Ev.mcut s.data.toList (vget s.data.toList a).2.1).2) := fun h => by
    show Fr.step s.data.toList ({ bare 2 ep with sq := Ev.clip (vget s.data.toList a).1 }, (vget s.data.toList a).2) (.ms) = _
    unfold Fr.step
    rw [if_pos h]
    rfl
  obtain ⟨⟨x, t1, e1⟩, hx⟩ : ∃ x, x = vget s.data.toList a := ⟨_, rfl⟩
  rw [← hx] at cn hle hG1 hG2
  simp only at cn hle hG1 hG2
  rw [hsl] at hle
  have hle2 := hle.2.1
  have CN := Lib.hid cn
  have HG1 := Lib.hid hG1
  have HG2 := Lib.hid hG2
  clear cn hle hG1 hG2 hx
  rw [show frv (bare 2 ep) none 0 = .agg #[.int .i64 2, .int .i64 ep, .int .i64 0, .int .i64 0, .bool false, .string ⟨#[]⟩, .int .i64 0, .int .i64 0, .string ⟨#[]⟩, .string ⟨#[]⟩, .int .i64 0, .slice none 0 0] from rfl]
  rw [show frc (bare 2 ep) none 0 = #[.int .i64 2, .int .i64 ep, .int .i64 0, .int .i64 0, .bool false, .string ⟨#[]⟩, .int .i64 0, .int .i64 0, .string ⟨#[]⟩, .string ⟨#[]⟩, .int .i64 0, .slice none 0 0] from rfl] at hW
  unfold zcs at hW
  clear b0 r0 k0 hsz
  go_enter Tryz.func45, Tryz.ntmps45
  go_wp2_with fail
  rw [← hW]
  refine CN.out.mono ?_
  rintro r w2 ⟨rfl, k2⟩
  clear hW CN
  have B2 := Lib.hid (B0.out.kept k2)
  have R2 := Lib.hid (R0.out.kept k2)
  have K2 := Lib.hid (K0.out.trans k2)
  have HS2 : Hid (w.heap.size + 2 ≤ w2.heap.size) := by have h1 := k2.size; have h2 := HSZ.out; show _ ≤ _; omega
  clear k2 B0 R0 K0
  by_cases he : e1 = 0
  · subst he
    have HG := Lib.hid (HG2.out rfl)
    clear HG1 HG2
    have cm := rcut_new s t1 w2 hs (by omega) (by omega)
    obtain ⟨⟨ms, t2, e2⟩, hy⟩ : ∃ y, y = Ev.mcut s.data.toList t1 := ⟨_, rfl⟩
    have hg := HG.out
    rw [← hy] at cm hg
    unfold CutNew at cm
    simp only at cm hg
    have CM := Lib.hid cm
    clear HG
    have HG := Lib.hid hg
    clear cm hg hy
    go_wp2_with fail
    refine (CM.out).mono ?_
    rintro r w3 ⟨av2, c2, rfl, m3, k3, hnew⟩
    have B3 := Lib.hid (B2.out.kept k3)
    have R3 := Lib.hid (R2.out.kept k3)
    have K3 := Lib.hid (K2.out.trans k3)
    have M3 := Lib.hid m3
    have HL : Hid (∀ g, g < w.heap.size + 2 → ms = [] ∨ ∀ x, av2 = some x → x.block ≠ g) := fun g hg => hnew.imp id fun h x hx => by have h1 := h x hx; have h2 := HS2.out; omega
    clear m3 hnew
    clear k3 B2 R2 K2
    have yb0 := B3.out
    have yb1 : Blk (w3.setCell ⟨w.heap.size, 2, none⟩ (.int .i64 (Ev.clip x))) w.heap.size #[.int .i64 2, .int .i64 ep, .int .i64 (Ev.clip x), .int .i64 0, .bool false, .string ⟨#[]⟩, .int .i64 0, .int .i64 0, .string ⟨#[]⟩, .string ⟨#[]⟩, .int .i64 0, .slice none 0 0] 26 := yb0.set 2 (.int .i64 (Ev.clip x))
    have yb2 : Blk ((w3.setCell ⟨w.heap.size, 2, none⟩ (.int .i64 (Ev.clip x))).setCell ⟨w.heap.size, 11, none⟩ (.slice av2 ms.length c2)) w.heap.size #[.int .i64 2, .int .i64 ep, .int .i64 (Ev.clip x), .int .i64 0, .bool false, .string ⟨#[]⟩, .int .i64 0, .int .i64 0, .string ⟨#[]⟩, .string ⟨#[]⟩, .int .i64 0, .slice av2 ms.length c2] 26 := yb1.set 11 (.slice av2 ms.length c2)
    have YB := Lib.hid yb2
    have YR := Lib.hid (((R3.out).far ⟨w.heap.size, 2, none⟩ (.int .i64 (Ev.clip x)) (Nat.succ_ne_self _)).far ⟨w.heap.size, 11, none⟩ (.slice av2 ms.length c2) (Nat.succ_ne_self _))
    have YK := Lib.hid (kept_set (kept_set (K3.out) (Nat.le_refl _) 2 (.int .i64 (Ev.clip x))) (Nat.le_refl _) 11 (.slice av2 ms.length c2))
    clear R3 K3 yb0 yb1 yb2
    have zb := B3.out.cell
    have zf := B3.out.frozen
    have yb := YB.out.cell
    have yr := YR.out.cell
    have yf := YR.out.frozen
    unfold zcs at yr
    go_wp2
    have bx := fr_sets YR.out ((⟨2, ep, (Ev.clip x), 0, false, ⟨#[]⟩, ⟨0, 0, ⟨#[]⟩, ⟨#[]⟩, 0⟩, ms⟩ : Fr.F)) av2 c2
    exact bodyPost_ret (ret_rest _ _ (w.heap.size + 1) ((⟨2, ep, (Ev.clip x), 0, false, ⟨#[]⟩, ⟨0, 0, ⟨#[]⟩, ⟨#[]⟩, 0⟩, ms⟩ : Fr.F)) av2 c2 t2 e2 rfl rfl rfl bx) rfl ⟨(⟨2, ep, (Ev.clip x), 0, false, ⟨#[]⟩, ⟨0, 0, ⟨#[]⟩, ⟨#[]⟩, 0⟩, ms⟩ : Fr.F), av2, c2, t2, by first | rfl | (rw [HG.out]; done) | (rw [HG.out]; rfl), fun _ => ⟨by rw [HG.out]; rfl, by rw [HG.out], mks_sets (mks_set (mks_set M3.out (HL.out w.heap.size (by omega)) 2 _) (HL.out w.heap.size (by omega)) 11 _) (HL.out (w.heap.size + 1) (by omega)) _ _ _ _ _ _ _ _ _ _ _ _⟩, fr_sets_kept YK.out (Nat.le_succ _) _ _ _ _ _ _ _ _ _ _ _ _⟩
  · have HG : Hid ((Fr.gets [.sq 1, .ms] s.data.toList (bare 2 ep, a, 0)).2.2 = e1) := HG1.out he
    have he1 : ((e1 : Int) == 0) = false := by rw [beq_eq_false_iff_ne]; omega
    have he2 : ((e1 : Int) != 0) = true := by simp only [bne, he1]; rfl
    clear HG1 HG2
    have yb0 := B2.out
    have YB := Lib.hid yb0
    have YR := Lib.hid (R2.out)
    have YK := Lib.hid (K2.out)
    clear R2 K2 yb0
    have zb := B2.out.cell
    have zf := B2.out.frozen
    have yb := YB.out.cell
    have yr := YR.out.cell
    have yf := YR.out.frozen
    unfold zcs at yr
    go_wp2
    have bx := fr_sets YR.out ((⟨2, ep, 0, 0, false, ⟨#[]⟩, ⟨0, 0, ⟨#[]⟩, ⟨#[]⟩, 0⟩, []⟩ : Fr.F)) none 0
    exact bodyPost_ret (ret_rest _ _ (w.heap.size + 1) ((⟨2, ep, 0, 0, false, ⟨#[]⟩, ⟨0, 0, ⟨#[]⟩, ⟨#[]⟩, 0⟩, []⟩ : Fr.F)) none 0 0 e1 rfl rfl rfl bx) rfl ⟨(⟨2, ep, 0, 0, false, ⟨#[]⟩, ⟨0, 0, ⟨#[]⟩, ⟨#[]⟩, 0⟩, []⟩ : Fr.F), none, 0, 0, by first | rfl | (rw [HG.out]; done) | (rw [HG.out]; rfl), fun h0 => absurd (HG.out.symm.trans h0) he, fr_sets_kept YK.out (Nat.le_succ _) _ _ _ _ _ _ _ _ _ _ _ _⟩

set_option maxHeartbeats 2000000 in
set_option maxRecDepth 100000 in
theorem rest7_6 (s : ByteArray) (a : Nat) (ep : Int) (w : World) (hs : s.size ≤ 1000) (ha : a ≤ s.size) :
    Calls Tryz.prog 45 #[frv (bare 6 ep) none 0, .string s, .int .i64 a] w (RestRes w (Fr.gets [.on, .fl] s.data.toList (bare 6 ep, a, 0))) := by
  have b0 := (Blk.made w (frc (bare 6 ep) none 0) 26).alloc (.cells zcs 26)
  have r0 := Blk.made (w.alloc (.cells (frc (bare 6 ep) none 0) 26)) zcs 26
  rw [World.size_alloc] at r0
  have k0 : Kept w ((w.alloc (.cells (frc (bare 6 ep) none 0) 26)).alloc (.cells zcs 26)) := ((Kept.refl w).alloc _).alloc _
  have hsz : ((w.alloc (.cells (frc (bare 6 ep) none 0) 26)).alloc (.cells zcs 26)).heap.size = w.heap.size + 2 := by rw [World.size_alloc, World.size_alloc]
  obtain ⟨W, hW⟩ : ∃ W, W = (w.alloc (.cells (frc (bare 6 ep) none 0) 26)).alloc (.cells zcs 26) := ⟨_, rfl⟩
  rw [← hW] at b0 r0 k0 hsz
  rw [show frc (bare 6 ep) none 0 = #[.int .i64 6, .int .i64 ep, .int .i64 0, .int .i64 0, .bool false, .string ⟨#[]⟩, .int .i64 0, .int .i64 0, .string ⟨#[]⟩, .string ⟨#[]⟩, .int .i64 0, .slice none 0 0] from rfl] at b0
  have B0 := Lib.hid b0
  have R0 := Lib.hid r0
  have K0 := Lib.hid k0
  have HSZ := Lib.hid hsz
  have hsl := size_len s
  rw [show frv (bare 6 ep) none 0 = .agg #[.int .i64 6, .int .i64 ep, .int .i64 0, .int .i64 0, .bool false, .string ⟨#[]⟩, .int .i64 0, .int .i64 0, .string ⟨#[]⟩, .string ⟨#[]⟩, .int .i64 0, .slice none 0 0] from rfl]
  rw [show frc (bare 6 ep) none 0 = #[.int .i64 6, .int .i64 ep, .int .i64 0, .int .i64 0, .bool false, .string ⟨#[]⟩, .int .i64 0, .int .i64 0, .string ⟨#[]⟩, .string ⟨#[]⟩, .int .i64 0, .slice none 0 0] from rfl] at hW
  unfold zcs at hW
  clear b0 r0 k0 hsz
  go_enter Tryz.func45, Tryz.ntmps45
  by_cases hlt : a < s.size
  · have hc : s.data.toList[a]? = some s[a] := by
      rw [List.getElem?_eq_getElem (by rw [size_len]; exact hlt)]
      rfl
    by_cases h1 : 1 < s[a].toNat
    · have HX : Hid ((Fr.gets [.on, .fl] s.data.toList (bare 6 ep, a, 0)).2.2 = 4) := by
        show (Fr.step s.data.toList (Fr.onGet s.data.toList a (bare 6 ep)) .fl).2.2 = 4
        rw [Fr.onGet_of hc, if_pos h1]
        rfl
      clear hc hW
      go_wp2
      have hb : Blk ((w.alloc (.cells (frc (bare 6 ep) none 0) 26)).alloc (.cells (frc (bare 6 ep) none 0) 26)) (w.heap.size + 1) (frc (bare 6 ep) none 0) 26 := by
        have := Blk.made (w.alloc (.cells (frc (bare 6 ep) none 0) 26)) (frc (bare 6 ep) none 0) 26
        rwa [World.size_alloc] at this
      exact bodyPost_ret (ret_rest _ _ (w.heap.size + 1) (bare 6 ep) none 0 0 4 rfl rfl rfl hb) rfl ⟨bare 6 ep, none, 0, 0, by rw [HX.out]; rfl, fun h0 => absurd (HX.out.symm.trans h0) (by decide), ((Kept.refl w).alloc _).alloc _⟩
    · by_cases h3 : s[a].toNat = 1
      · have h4 : s[a] = 1 := UInt8.toNat_inj.1 (by rw [h3]; rfl)
        have hG : Fr.gets [.on, .fl] s.data.toList (bare 6 ep, a, 0) = ({ bare 6 ep with on := true, fl := ⟨(vcut s.data.toList ((a : Int) + 1)).1.toArray⟩ }, (vcut s.data.toList ((a : Int) + 1)).2) := by
          show Fr.step s.data.toList (Fr.onGet s.data.toList a (bare 6 ep)) .fl = _
          rw [Fr.onGet_of hc, if_neg h1]
          rw [decide_eq_true h3]
          rfl
        have cc := refcut_any s ((a : Int) + 1) W hs (by omega) (by omega)
        obtain ⟨⟨x, t, e⟩, hx⟩ : ∃ x, x = vcut s.data.toList ((a : Int) + 1) := ⟨_, rfl⟩
        rw [← hx] at cc hG
        unfold tups str at cc
        simp only at cc hG
        have CC := Lib.hid cc
        have HG := Lib.hid hG
        clear cc hG hx hc h1 h3
        go_wp2_with fail
        rw [← hW]
        refine CC.out.mono ?_
        rintro r w2 ⟨rfl, k2⟩
        clear hW CC
        have B2 := Lib.hid (B0.out.kept k2)
        have R2 := Lib.hid (R0.out.kept k2)
        have K2 := Lib.hid (K0.out.trans k2)
        clear k2 B0 R0 K0
        have yb0 := B2.out
        have yb1 : Blk (w2.setCell ⟨w.heap.size, 4, none⟩ (.bool true)) w.heap.size #[.int .i64 6, .int .i64 ep, .int .i64 0, .int .i64 0, .bool true, .string ⟨#[]⟩, .int .i64 0, .int .i64 0, .string ⟨#[]⟩, .string ⟨#[]⟩, .int .i64 0, .slice none 0 0] 26 := yb0.set 4 (.bool true)
        have yb2 : Blk ((w2.setCell ⟨w.heap.size, 4, none⟩ (.bool true)).setCell ⟨w.heap.size, 5, none⟩ (.string ⟨x.toArray⟩)) w.heap.size #[.int .i64 6, .int .i64 ep, .int .i64 0, .int .i64 0, .bool true, .string ⟨x.toArray⟩, .int .i64 0, .int .i64 0, .string ⟨#[]⟩, .string ⟨#[]⟩, .int .i64 0, .slice none 0 0] 26 := yb1.set 5 (.string ⟨x.toArray⟩)
        have YB := Lib.hid yb2
        have YR := Lib.hid (((R2.out).far ⟨w.heap.size, 4, none⟩ (.bool true) (Nat.succ_ne_self _)).far ⟨w.heap.size, 5, none⟩ (.string ⟨x.toArray⟩) (Nat.succ_ne_self _))
        have YK := Lib.hid (kept_set (kept_set (K2.out) (Nat.le_refl _) 4 (.bool true)) (Nat.le_refl _) 5 (.string ⟨x.toArray⟩))
        clear R2 K2 yb0 yb1 yb2
        have zb := B2.out.cell
        have zf := B2.out.frozen
        have yb := YB.out.cell
        have yr := YR.out.cell
        have yf := YR.out.frozen
        unfold zcs at yr
        go_wp2
        have bx := fr_sets YR.out ((⟨6, ep, 0, 0, true, ⟨x.toArray⟩, ⟨0, 0, ⟨#[]⟩, ⟨#[]⟩, 0⟩, []⟩ : Fr.F)) none 0
        exact bodyPost_ret (ret_rest _ _ (w.heap.size + 1) ((⟨6, ep, 0, 0, true, ⟨x.toArray⟩, ⟨0, 0, ⟨#[]⟩, ⟨#[]⟩, 0⟩, []⟩ : Fr.F)) none 0 t e rfl rfl rfl bx) rfl ⟨(⟨6, ep, 0, 0, true, ⟨x.toArray⟩, ⟨0, 0, ⟨#[]⟩, ⟨#[]⟩, 0⟩, []⟩ : Fr.F), none, 0, t, by first | rfl | (rw [HG.out]; done) | (rw [HG.out]; rfl), fun _ => ⟨by rw [HG.out]; rfl, by rw [HG.out], MkS.nil _⟩, fr_sets_kept YK.out (Nat.le_succ _) _ _ _ _ _ _ _ _ _ _ _ _⟩
      · have h4 : s[a] = 0 := UInt8.toNat_inj.1 (by show s[a].toNat = 0; omega)
        have hG : Fr.gets [.on, .fl] s.data.toList (bare 6 ep, a, 0) = ({ bare 6 ep with on := false, fl := ⟨(vcut s.data.toList ((a : Int) + 1)).1.toArray⟩ }, (vcut s.data.toList ((a : Int) + 1)).2) := by
          show Fr.step s.data.toList (Fr.onGet s.data.toList a (bare 6 ep)) .fl = _
          rw [Fr.onGet_of hc, if_neg h1]
          rw [decide_eq_false h3]
          rfl
        have cc := refcut_any s ((a : Int) + 1) W hs (by omega) (by omega)
        obtain ⟨⟨x, t, e⟩, hx⟩ : ∃ x, x = vcut s.data.toList ((a : Int) + 1) := ⟨_, rfl⟩
        rw [← hx] at cc hG
        unfold tups str at cc
        simp only at cc hG
        have CC := Lib.hid cc
        have HG := Lib.hid hG
        clear cc hG hx hc h1 h3
        go_wp2_with fail
        rw [← hW]
        refine CC.out.mono ?_
        rintro r w2 ⟨rfl, k2⟩
        clear hW CC
        have B2 := Lib.hid (B0.out.kept k2)
        have R2 := Lib.hid (R0.out.kept k2)
        have K2 := Lib.hid (K0.out.trans k2)
        clear k2 B0 R0 K0
        have yb0 := B2.out
        have yb1 : Blk (w2.setCell ⟨w.heap.size, 4, none⟩ (.bool false)) w.heap.size #[.int .i64 6, .int .i64 ep, .int .i64 0, .int .i64 0, .bool false, .string ⟨#[]⟩, .int .i64 0, .int .i64 0, .string ⟨#[]⟩, .string ⟨#[]⟩, .int .i64 0, .slice none 0 0] 26 := yb0.set 4 (.bool false)
        have yb2 : Blk ((w2.setCell ⟨w.heap.size, 4, none⟩ (.bool false)).setCell ⟨w.heap.size, 5, none⟩ (.string ⟨x.toArray⟩)) w.heap.size #[.int .i64 6, .int .i64 ep, .int .i64 0, .int .i64 0, .bool false, .string ⟨x.toArray⟩, .int .i64 0, .int .i64 0, .string ⟨#[]⟩, .string ⟨#[]⟩, .int .i64 0, .slice none 0 0] 26 := yb1.set 5 (.string ⟨x.toArray⟩)
        have YB := Lib.hid yb2
        have YR := Lib.hid (((R2.out).far ⟨w.heap.size, 4, none⟩ (.bool false) (Nat.succ_ne_self _)).far ⟨w.heap.size, 5, none⟩ (.string ⟨x.toArray⟩) (Nat.succ_ne_self _))
        have YK := Lib.hid (kept_set (kept_set (K2.out) (Nat.le_refl _) 4 (.bool false)) (Nat.le_refl _) 5 (.string ⟨x.toArray⟩))
        clear R2 K2 yb0 yb1 yb2
        have zb := B2.out.cell
        have zf := B2.out.frozen
        have yb := YB.out.cell
        have yr := YR.out.cell
        have yf := YR.out.frozen
        unfold zcs at yr
        go_wp2
        have bx := fr_sets YR.out ((⟨6, ep, 0, 0, false, ⟨x.toArray⟩, ⟨0, 0, ⟨#[]⟩, ⟨#[]⟩, 0⟩, []⟩ : Fr.F)) none 0
        exact bodyPost_ret (ret_rest _ _ (w.heap.size + 1) ((⟨6, ep, 0, 0, false, ⟨x.toArray⟩, ⟨0, 0, ⟨#[]⟩, ⟨#[]⟩, 0⟩, []⟩ : Fr.F)) none 0 t e rfl rfl rfl bx) rfl ⟨(⟨6, ep, 0, 0, false, ⟨x.toArray⟩, ⟨0, 0, ⟨#[]⟩, ⟨#[]⟩, 0⟩, []⟩ : Fr.F), none, 0, t, by first | rfl | (rw [HG.out]; done) | (rw [HG.out]; rfl), fun _ => ⟨by rw [HG.out]; rfl, by rw [HG.out], MkS.nil _⟩, fr_sets_kept YK.out (Nat.le_succ _) _ _ _ _ _ _ _ _ _ _ _ _⟩
  · have HX : Hid ((Fr.gets [.on, .fl] s.data.toList (bare 6 ep, a, 0)).2.2 = 3) := by
      show (Fr.step s.data.toList (Fr.onGet s.data.toList a (bare 6 ep)) .fl).2.2 = 3
      rw [Fr.onGet_no (List.getElem?_eq_none (by rw [size_len]; omega))]
      rfl
    have ea : a = s.size := by omega
    subst ea
    clear hW
    go_wp2
    have hb : Blk ((w.alloc (.cells (frc (bare 6 ep) none 0) 26)).alloc (.cells (frc (bare 6 ep) none 0) 26)) (w.heap.size + 1) (frc (bare 6 ep) none 0) 26 := by
      have := Blk.made (w.alloc (.cells (frc (bare 6 ep) none 0) 26)) (frc (bare 6 ep) none 0) 26
      rwa [World.size_alloc] at this
    exact bodyPost_ret (ret_rest _ _ (w.heap.size + 1) (bare 6 ep) none 0 0 3 rfl rfl rfl hb) rfl ⟨bare 6 ep, none, 0, 0, by rw [HX.out]; rfl, fun h0 => absurd (HX.out.symm.trans h0) (by decide), ((Kept.refl w).alloc _).alloc _⟩
end Go.Proofs.YtlfmpoinjbmjoaaGreatDoor

namespace Go.Proofs.YtlfmpoinjbmjoaaGreatDoor
open Go.ChangeShapes Go.WideShapes Go.ChangeAt Go.RowKit

/-- the numbers and texts of a frame are ones that a machine may hold -/
def FrN (f : Fr.F) : Prop := I64 f.k ∧ I64 f.ep ∧ I64 f.sq ∧ I64 f.cr ∧ f.fl.size ≤ 65536 ∧ f.e.t.size ≤ 65536 ∧ Fit f.e
theorem frn_get (p : Fr.P) (l : List UInt8) (a : Nat) (f : Fr.F) (hl : l.length ≤ 65536) (ha : a ≤ l.length) (h : FrN f) : FrN (p.get l a f).1 := by
  obtain ⟨h1, h2, h3, h4, h5, h6, h7⟩ := h
  cases p with
  | ep => exact ⟨h1, i64_clip _, h3, h4, h5, h6, h7⟩
  | sq n => exact ⟨h1, h2, i64_clip _, h4, h5, h6, h7⟩
  | cr => exact ⟨h1, h2, h3, i64_clip _, h5, h6, h7⟩
  | ms => exact ⟨h1, h2, h3, h4, h5, h6, h7⟩
  | ev =>
    have hfit := evget_fit l a (by omega) (by omega)
    simp only [Fr.P.get]
    generalize Ev.get l (a : Int) = X at hfit ⊢
    exact ⟨h1, h2, h3, h4, h5, hfit.2, hfit.1⟩
  | on =>
    have hf : (Fr.onGet l a f).1 = { f with on := (Fr.onGet l a f).1.on } := by
      unfold Fr.onGet
      split
      · rfl
      · split <;> rfl
    show FrN (Fr.onGet l a f).1
    rw [hf]
    exact ⟨h1, h2, h3, h4, h5, h6, h7⟩
  | fl =>
    have hcl := (Ck.vcut_le l a).1
    exact ⟨h1, h2, h3, h4, by show (vcut l a).1.toArray.size ≤ 65536; simpa using hcl, h6, h7⟩
theorem frn_gets (l : List UInt8) (hl : l.length ≤ 65536) : ∀ (ps : List Fr.P) (st : Fr.F × Nat × Nat), st.2.1 ≤ l.length → FrN st.1 → FrN (Fr.gets ps l st).1 ∧ (Fr.gets ps l st).2.1 ≤ l.length
  | [], _, ha, h => ⟨h, ha⟩
  | p :: ps, st, ha, h => by
    show FrN (Fr.gets ps l (Fr.step l st p)).1 ∧ (Fr.gets ps l (Fr.step l st p)).2.1 ≤ l.length
    unfold Fr.step
    split
    · exact frn_gets l hl ps _ (p_get_le p l _ _ ha).1 (frn_get p l _ _ hl ha h)
    · exact frn_gets l hl ps _ ha h
theorem frn_bare (k ep : Int) (hk : I64 k) (he : I64 ep) : FrN (bare k ep) := ⟨hk, he, i64_zero, i64_zero, Nat.zero_le _, Nat.zero_le _, fit_zero⟩
theorem FrN.frs {f : Fr.F} (h : FrN f) {w : World} {av : Option Addr} {cap : Nat} (m : MkS w av cap f.ms) : FrS w f av cap := by
  obtain ⟨h1, h2, h3, h4, h5, h6, h7⟩ := h
  exact ⟨h1, h2, h3, h4, h5, h6, h7, m⟩

/-- rest, whatever the kind -/
theorem rest7_any (k : Int) (hk : 1 ≤ k ∧ k ≤ 6) (s : ByteArray) (a : Nat) (ep : Int) (w : World) (hs : s.size ≤ 1000) (ha : a ≤ s.size) :
    Calls Tryz.prog 45 #[frv (bare k ep) none 0, .string s, .int .i64 a] w (RestRes w (Fr.gets (Fr.parts k).tail s.data.toList (bare k ep, a, 0))) := by
  rcases Fr.has_cases k with ⟨rfl, _, hp⟩ | ⟨rfl, _, hp⟩ | ⟨rfl, _, hp⟩ | ⟨rfl, _, hp⟩ | ⟨rfl, _, hp⟩ | ⟨rfl, _, hp⟩ | ⟨h, _, _⟩
  · rw [hp]; exact rest7_1 s a ep w hs ha
  · rw [hp]; exact rest7_2 s a ep w hs ha
  · rw [hp]; exact rest7_3 s a ep w hs ha
  · rw [hp]; exact rest7_4 s a ep w hs ha
  · rw [hp]; exact rest7_5 s a ep w hs ha
  · rw [hp]; exact rest7_6 s a ep w hs ha
  · omega
/-- read, kind and epoch taken -/
theorem read_none (l : List UInt8) (h0 : (vget l 0).2.2 = 0) (h : (vget l 0).1 < 1 ∨ 6 < (vget l 0).1) : Fr.read l = (.zero, 6) := by
  have hk : Fr.has (Fr.kindOf (vget l 0).1) = none := by
    have : Fr.kindOf (vget l 0).1 < 1 ∨ 6 < Fr.kindOf (vget l 0).1 := by unfold Fr.kindOf; omega
    rcases Fr.has_cases (Fr.kindOf (vget l 0).1) with ⟨h1, _⟩ | ⟨h1, _⟩ | ⟨h1, _⟩ | ⟨h1, _⟩ | ⟨h1, _⟩ | ⟨h1, _⟩ | ⟨_, h2, _⟩
    all_goals first | exact h2 | omega
  unfold Fr.read
  rw [if_neg (by simp [h0]), hk]
  rfl
theorem read_bad0 (l : List UInt8) (h0 : (vget l 0).2.2 ≠ 0) : Fr.read l = (.zero, (vget l 0).2.2) := by
  unfold Fr.read
  rw [if_pos h0]
theorem read_some (l : List UInt8) (k : Int) (hk : 1 ≤ k ∧ k ≤ 6) (h0 : (vget l 0).2.2 = 0) (h : ((vget l 0).1 : Int) = k) (G : Fr.F × Nat × Nat)
    (hG : Fr.gets (Fr.parts k) l (Fr.made k, (vget l 0).2.1, 0) = G) : Fr.read l = if G.2.2 ≠ 0 then (.zero, G.2.2) else if G.2.1 < l.length then (.zero, 4) else if Fr.right G.1 then (G.1, 0) else (.zero, 4) := by
  have e : Fr.kindOf (vget l 0).1 = k := by unfold Fr.kindOf; omega
  have hs : (Fr.has k).isSome = true := by
    rcases Fr.has_cases k with ⟨_, h1, _⟩ | ⟨_, h1, _⟩ | ⟨_, h1, _⟩ | ⟨_, h1, _⟩ | ⟨_, h1, _⟩ | ⟨_, h1, _⟩ | ⟨h2, _, _⟩
    all_goals first | (rw [h1]; rfl) | omega
  have hk' : G.1.k = k := by rw [← hG, Fr.gets_k]; rfl
  unfold Fr.read
  rw [if_neg (by simp [h0]), e, if_pos hs, hG]
  unfold Fr.right
  rw [hk', hs, Bool.true_and]
theorem gets_ep (l : List UInt8) (k : Int) (hk : 1 ≤ k ∧ k ≤ 6) (a : Nat) : Fr.gets (Fr.parts k) l (Fr.made k, a, 0) = Fr.gets (Fr.parts k).tail l (bare k (Ev.clip (vget l a).1), (vget l a).2) := by
  rcases Fr.has_cases k with ⟨rfl, _, hp⟩ | ⟨rfl, _, hp⟩ | ⟨rfl, _, hp⟩ | ⟨rfl, _, hp⟩ | ⟨rfl, _, hp⟩ | ⟨rfl, _, hp⟩ | ⟨h, _, _⟩
  all_goals first | (rw [hp]; rfl) | omega
/-- the document's Get, its end -/
theorem ret_rget (tmps : Array Value) (W : World) (R : Nat) (f : Fr.F) (av : Option Addr) (cap : Nat) (e : Int) (h2 : tmps[2]? = some (.pointer (some ⟨R, 0, none⟩))) (h3 : tmps[3]? = some (.int .i64 e)) (hb : Blk W R (frc f av cap) 26) :
    (results Tryz.f22 tmps).run Tryz.prog W = .ok (.tuple #[frv f av cap, .int .i64 e]) W := by
  have c := blk_rule hb
  unfold frc at c
  simp [results, Tryz.f22, go_sem, h2, h3, frv, frc, c]
end Go.Proofs.YtlfmpoinjbmjoaaGreatDoor

namespace Go.Proofs.YtlfmpoinjbmjoaaGreatDoor
open Go.ChangeShapes Go.WideShapes Go.ChangeAt Go.RowKit

theorem gets_stay (l : List UInt8) : ∀ (ps : List Fr.P) (st : Fr.F × Nat × Nat), st.2.2 ≠ 0 → Fr.gets ps l st = st
  | [], _, _ => rfl
  | p :: ps, st, h => by
    show Fr.gets ps l (Fr.step l st p) = st
    unfold Fr.step
    rw [if_neg h]
    exact gets_stay l ps st h

set_option maxHeartbeats 4000000 in
set_option maxRecDepth 100000 in
theorem rget7_any (s : ByteArray) (w : World) (hs : s.size ≤ 1000) : Calls Tryz.prog 22 #[.string s] w (FrRes w (Fr.get s.data.toList)) := by
  have Hsl := Lib.hid (size_len s)
  have b1 : Blk (w.alloc (.cells zcs 26)) w.heap.size zcs 26 := Blk.made w zcs _
  have k1 : Kept w (w.alloc (.cells zcs 26)) := (Kept.refl w).alloc _
  have hrd : Fr.get s.data.toList = Fr.get s.data.toList := rfl
  conv at hrd => rhs; unfold Fr.get
  rw [Hsl.out, if_neg (by omega)] at hrd
  have hle := Ck.open_le s.data.toList 0
  have hc0 := fun w' => refopen_any s 0 w' hs (by omega) (by omega)
  obtain ⟨⟨x, t, er⟩, hv⟩ : ∃ x, x = Ck.open_ s.data.toList 0 := ⟨_, rfl⟩
  rw [← hv] at hrd hle hc0
  simp only at hrd hle
  unfold tups at hc0
  simp only at hc0
  obtain ⟨p, hp, sp, lp⟩ := name_row x
  rw [hp] at hc0
  obtain ⟨l1, l2, l3⟩ := hle
  rw [Hsl.out] at l2
  have Hrd := Lib.hid hrd
  have CG := Lib.hid hc0
  have LP := Lib.hid lp
  have hgot := Ck.open_got s.data.toList
  rw [← hv] at hgot
  simp only at hgot
  have HGOT := Lib.hid hgot
  clear hrd hv hc0 hp lp hgot
  unfold zcs at b1 k1
  go_enter Tryz.func22, Tryz.ntmps22
  go_wp2_with fail
  refine (CG.out _).mono ?_
  rintro r w1 ⟨rfl, k2⟩
  have B : Hid (Blk w1 w.heap.size zcs 26) := b1.kept k2
  have K := Lib.hid (k1.trans k2)
  obtain ⟨R, hR⟩ : ∃ R, R = w.heap.size := ⟨_, rfl⟩
  rw [← hR] at B ⊢
  have HR : Hid (w.heap.size ≤ R) := by show _ ≤ _; omega
  clear k2 hR CG b1 k1
  by_cases he : er = 0
  · subst he
    have hrd := Hrd.out
    rw [if_neg (by simp)] at hrd
    by_cases ht : t = s.size
    · subst ht
      rw [if_neg (by omega)] at hrd
      have HG : Hid (Fr.get s.data.toList = Fr.read x) := hrd
      have hps : p.size ≤ 1000 := by
        obtain ⟨_, _, _, h⟩ := HGOT.out rfl
        have := congrArg List.length h
        rw [List.length_take, Ck.seal_length, Hsl.out] at this
        omega
      clear hrd Hrd
      have hn1 := fun w' => rnum7_any p 0 w' hps (by omega) (by omega)
      rw [LP.out] at hn1
      have hv1 := vget_le x 0
      obtain ⟨⟨k0, a, e1⟩, hg1⟩ : ∃ y, y = vget x 0 := ⟨_, rfl⟩
      rw [← hg1] at hn1 hv1
      simp only at hn1 hv1
      have HV1 := Lib.hid hg1
      have N1 := Lib.hid hn1
      clear hn1 hg1
      go_wp2_with fail
      refine (N1.out _).mono ?_
      rintro r w2 ⟨rfl, k2⟩
      have B2 := Lib.hid (B.out.kept k2)
      have K2 := Lib.hid (K.out.trans k2)
      clear k2 B K N1
      have B := B2
      have K := K2
      clear B2 K2
      by_cases he1 : e1 = 0
      · subst he1
        have hgv : (vget x 0).2.2 = 0 := by rw [← HV1.out]
        have hga : (vget x 0).2.1 = a := by rw [← HV1.out]
        have hgk : (vget x 0).1 = k0 := by rw [← HV1.out]
        obtain ⟨k, hk⟩ : ∃ k : Int, k = Ev.clip k0 := ⟨_, rfl⟩
        have hkc : k = min k0 1099511627777 := by rw [hk]; unfold Ev.clip; omega
        rw [← hk]
        have HGV := Lib.hid hgv
        have HGA := Lib.hid hga
        have HGK := Lib.hid hgk
        clear hgv hga hgk hk
        by_cases hlo : k < 1
        · have hx0 : k0 < 1 ∨ 6 < k0 := by omega
          have HX0 := Lib.hid hx0
          clear hkc hx0
          have zr := blk_rule B.out
          unfold zcs at zr
          have zf := B.out.frozen
          have HX : Hid (Fr.get s.data.toList = (.zero, 6)) := by
            show _ = _
            rw [HG.out, read_none x HGV.out (by rw [HGK.out]; exact HX0.out)]
          go_wp2
          exact bodyPost_ret (ret_rget _ _ R .zero none 0 _ rfl rfl (fr_sets B.out .zero none 0)) rfl (frRes_zero HX.out (fr_sets_kept K.out HR.out _ _ _ _ _ _ _ _ _ _ _ _))
        by_cases hhi : 6 < k
        · have hx0 : k0 < 1 ∨ 6 < k0 := by omega
          have HX0 := Lib.hid hx0
          clear hkc hx0
          have zr := blk_rule B.out
          unfold zcs at zr
          have zf := B.out.frozen
          have HX : Hid (Fr.get s.data.toList = (.zero, 6)) := by
            show _ = _
            rw [HG.out, read_none x HGV.out (by rw [HGK.out]; exact HX0.out)]
          go_wp2
          exact bodyPost_ret (ret_rget _ _ R .zero none 0 _ rfl rfl (fr_sets B.out .zero none 0)) rfl (frRes_zero HX.out (fr_sets_kept K.out HR.out _ _ _ _ _ _ _ _ _ _ _ _))
        have hk16 : 1 ≤ k ∧ k ≤ 6 := by omega
        have hkk : ((vget x 0).1 : Int) = k := by rw [HGK.out]; omega
        have HKK := Lib.hid hkk
        clear hkc hkk
        have ha : a ≤ p.size := by have := hv1; simp only [sp]; omega
        have hn2 := fun w' => rnum7_any p a w' hps (by omega) (by omega)
        rw [LP.out] at hn2
        have hv2 := vget_le x a
        have hgets := gets_ep x k hk16 a
        obtain ⟨⟨n0, b, e2⟩, hg2⟩ : ∃ y, y = vget x a := ⟨_, rfl⟩
        rw [← hg2] at hn2 hv2 hgets
        simp only at hn2 hv2 hgets
        have HGE := Lib.hid hgets
        have N2 := Lib.hid hn2
        clear hn2 hg2 hgets
        obtain ⟨n, hn⟩ : ∃ n : Int, n = Ev.clip n0 := ⟨_, rfl⟩
        rw [← hn] at N2 HGE
        have hnI : I64 n := by rw [hn]; exact i64_clip _
        clear hn
        go_wp2_with fail
        refine (N2.out _).mono ?_
        rintro r w3 ⟨rfl, k2⟩
        have B2 := Lib.hid (B.out.kept k2)
        have K2 := Lib.hid (K.out.trans k2)
        clear k2 B K N2
        have B := B2
        have K := K2
        clear B2 K2
        by_cases he2 : e2 = 0
        · subst he2
          have hb2 : b ≤ p.size := by rw [sp]; exact hv2.2.1
          have cr := fun w' => rest7_any k hk16 p b n w' hps hb2
          rw [LP.out] at cr
          have hfn := frn_gets x l3 (Fr.parts k).tail (bare k n, b, 0) hv2.2.1 (frn_bare k n (by unfold I64; omega) hnI)
          have hrs := read_some x k hk16 HGV.out HKK.out _ rfl
          rw [HGA.out, HGE.out] at hrs
          obtain ⟨⟨F0, t3, e3⟩, hG⟩ : ∃ G, G = Fr.gets (Fr.parts k).tail x (bare k n, b, 0) := ⟨_, rfl⟩
          rw [← hG] at cr hfn hrs
          simp only at hfn hrs
          have CR := Lib.hid cr
          have HFN := Lib.hid hfn.1
          have HRS := Lib.hid hrs
          have ht3 : t3 ≤ p.size := by rw [sp]; exact hfn.2
          clear cr hG hfn hrs HGE
          go_wp2_with fail
          refine (CR.out _).mono ?_
          rintro r w4 ⟨F, av, c, t4, rfl, hok, k4⟩
          have B2 := Lib.hid (B.out.kept k4)
          have K2 := Lib.hid (K.out.trans k4)
          have HOK := Lib.hid hok
          clear k4 B K CR hok
          have ka : Kept w4 (w4.alloc (.cells (frc F av c) 26)) := (Kept.refl w4).alloc _
          have B := Lib.hid (B2.out.kept ka)
          have K := Lib.hid (K2.out.trans ka)
          have KA := Lib.hid ka
          have BL := Lib.hid (Blk.made w4 (frc F av c) 26)
          clear B2 K2 ka
          simp only
          unfold frc at B K KA
          unfold frv frc
          by_cases he3 : e3 = 0
          · subst he3
            obtain ⟨h1, h2, h3⟩ := HOK.out rfl
            subst h1 h2
            have M := Lib.hid h3
            clear h3 HOK
            by_cases htp : t4 = p.size
            · subst htp
              have hrs := HRS.out
              rw [if_neg (by simp), if_neg (by rw [sp]; omega)] at hrs
              have HRR := Lib.hid hrs
              have FS := Lib.hid ((HFN.out.frs M.out).kept KA.out)
              have RC := Lib.hid (rright7_any F av c _ FS.out)
              clear hrs HRS M
              unfold frv frc at RC
              go_wp2_with fail
              refine RC.out.mono ?_
              rintro r w5 ⟨rfl, k5⟩
              have B5 := Lib.hid (B.out.kept k5)
              have K5 := Lib.hid (K.out.trans k5)
              have F5 := Lib.hid (FS.out.kept k5)
              have zl := blk_rule (BL.out.kept k5)
              unfold frc at zl
              clear k5 B K FS KA BL RC
              have B := B5
              have K := K5
              clear B5 K5
              cases hr : Fr.right F with
              | false =>
                have hrr := HRR.out
                rw [if_neg (by rw [hr]; simp)] at hrr
                have HRF := Lib.hid hrr
                clear hrr hr HRR zl
                have zr := blk_rule B.out
                unfold zcs at zr
                have zf := B.out.frozen
                have HX : Hid (Fr.get s.data.toList = (.zero, 4)) := by
                  show _ = _
                  rw [HG.out, HRF.out]
                go_wp2
                exact bodyPost_ret (ret_rget _ _ R .zero none 0 _ rfl rfl (fr_sets B.out .zero none 0)) rfl (frRes_zero HX.out (fr_sets_kept K.out HR.out _ _ _ _ _ _ _ _ _ _ _ _))
              | true =>
                have hrr := HRR.out
                rw [if_pos hr] at hrr
                have HX : Hid (Fr.get s.data.toList = (F, 0)) := by
                  show _ = _
                  rw [HG.out, hrr]
                have hlow := marks_far F5.out.ms B.out (right_ms F hr)
                have B7 := Lib.hid (fr_sets B.out F av c)
                have K7 := Lib.hid (fr_sets_kept (R := R) K.out HR.out (.int .i64 F.k) (.int .i64 F.ep) (.int .i64 F.sq) (.int .i64 F.cr) (.bool F.on) (.string F.fl) (.int .i64 F.e.o) (.int .i64 F.e.s) (.string F.e.t) (.string F.e.l) (.int .i64 F.e.d) (.slice av F.ms.length c))
                have F7 := Lib.hid (frs_sets (R := R) F5.out hlow (.int .i64 F.k) (.int .i64 F.ep) (.int .i64 F.sq) (.int .i64 F.cr) (.bool F.on) (.string F.fl) (.int .i64 F.e.o) (.int .i64 F.e.s) (.string F.e.t) (.string F.e.l) (.int .i64 F.e.d) (.slice av F.ms.length c))
                have zr := blk_rule B.out
                unfold zcs at zr
                have zf := B.out.frozen
                clear hlow hrr HRR hr
                go_wp2
                exact bodyPost_ret (ret_rget _ _ R F av c _ rfl rfl B7.out) rfl ⟨av, c, by rw [HX.out]; rfl, by rw [HX.out]; exact F7.out, K7.out⟩
            · have q0 : ((t4 : Int) == (p.size : Int)) = false := by rw [beq_eq_false_iff_ne]; omega
              have q1 : ((t4 : Int) != (p.size : Int)) = true := by simp [bne, q0]
              have hrs := HRS.out
              rw [if_neg (by simp), if_pos (by rw [sp] at htp ht3; omega)] at hrs
              have HR4 := Lib.hid hrs
              rw [sp] at q0 q1
              clear hrs HRS M KA BL
              have zr := blk_rule B.out
              unfold zcs at zr
              have zf := B.out.frozen
              have HX : Hid (Fr.get s.data.toList = (.zero, 4)) := by
                show _ = _
                rw [HG.out, HR4.out]
              go_wp2
              exact bodyPost_ret (ret_rget _ _ R .zero none 0 _ rfl rfl (fr_sets B.out .zero none 0)) rfl (frRes_zero HX.out (fr_sets_kept K.out HR.out _ _ _ _ _ _ _ _ _ _ _ _))
          · have q0 : ((e3 : Int) == 0) = false := by rw [beq_eq_false_iff_ne]; omega
            have q1 : ((e3 : Int) != 0) = true := by simp [bne, q0]
            have hrs := HRS.out
            rw [if_pos he3] at hrs
            have HR3 := Lib.hid hrs
            clear hrs HRS HOK KA BL
            have zr := blk_rule B.out
            unfold zcs at zr
            have zf := B.out.frozen
            have HX : Hid (Fr.get s.data.toList = (.zero, e3)) := by
              show _ = _
              rw [HG.out, HR3.out]
            go_wp2
            exact bodyPost_ret (ret_rget _ _ R .zero none 0 _ rfl rfl (fr_sets B.out .zero none 0)) rfl (frRes_zero HX.out (fr_sets_kept K.out HR.out _ _ _ _ _ _ _ _ _ _ _ _))
        · have hr : Fr.read x = (.zero, e2) := by
            rw [read_some x k hk16 HGV.out HKK.out _ rfl, HGA.out, HGE.out, gets_stay _ _ _ he2]
            exact if_pos he2
          have HRD := Lib.hid hr
          clear hr
          have q0 : ((e2 : Int) == 0) = false := by rw [beq_eq_false_iff_ne]; omega
          have q1 : ((e2 : Int) != 0) = true := by simp [bne, q0]
          have zr := blk_rule B.out
          unfold zcs at zr
          have zf := B.out.frozen
          have HX : Hid (Fr.get s.data.toList = (.zero, e2)) := by
            show _ = _
            rw [HG.out, HRD.out]
          go_wp2
          exact bodyPost_ret (ret_rget _ _ R .zero none 0 _ rfl rfl (fr_sets B.out .zero none 0)) rfl (frRes_zero HX.out (fr_sets_kept K.out HR.out _ _ _ _ _ _ _ _ _ _ _ _))
      · have hgv : (vget x 0).2.2 = e1 := by rw [← HV1.out]
        have HGV := Lib.hid hgv
        clear hgv
        have q0 : ((e1 : Int) == 0) = false := by rw [beq_eq_false_iff_ne]; omega
        have q1 : ((e1 : Int) != 0) = true := by simp [bne, q0]
        have zr := blk_rule B.out
        unfold zcs at zr
        have zf := B.out.frozen
        have HX : Hid (Fr.get s.data.toList = (.zero, e1)) := by
          show _ = _
          rw [HG.out, read_bad0 x (by rw [HGV.out]; exact he1), HGV.out]
        go_wp2
        exact bodyPost_ret (ret_rget _ _ R .zero none 0 _ rfl rfl (fr_sets B.out .zero none 0)) rfl (frRes_zero HX.out (fr_sets_kept K.out HR.out _ _ _ _ _ _ _ _ _ _ _ _))
    · have q0 : ((t : Int) == (s.size : Int)) = false := by rw [beq_eq_false_iff_ne]; omega
      have q1 : ((t : Int) != (s.size : Int)) = true := by simp [bne, q0]
      have HT4 : Hid (t < s.size) := by show _ < _; omega
      clear hrd
      have zr := blk_rule B.out
      unfold zcs at zr
      have zf := B.out.frozen
      have HX : Hid (Fr.get s.data.toList = (.zero, 4)) := by
        show _ = _
        rw [Hrd.out, if_neg (by simp), if_pos HT4.out]
      go_wp2
      exact bodyPost_ret (ret_rget _ _ R .zero none 0 _ rfl rfl (fr_sets B.out .zero none 0)) rfl (frRes_zero HX.out (fr_sets_kept K.out HR.out _ _ _ _ _ _ _ _ _ _ _ _))
  · have q0 : ((er : Int) == 0) = false := by rw [beq_eq_false_iff_ne]; omega
    have q1 : ((er : Int) != 0) = true := by simp [bne, q0]
    have zr := blk_rule B.out
    unfold zcs at zr
    have zf := B.out.frozen
    have HX : Hid (Fr.get s.data.toList = (.zero, er)) := by
      show _ = _
      rw [Hrd.out, if_pos he]
    go_wp2
    exact bodyPost_ret (ret_rget _ _ R .zero none 0 _ rfl rfl (fr_sets B.out .zero none 0)) rfl (frRes_zero HX.out (fr_sets_kept K.out HR.out _ _ _ _ _ _ _ _ _ _ _ _))
end Go.Proofs.YtlfmpoinjbmjoaaGreatDoor
