/-
  The document's own: the walk of rivuletref06.Get.
-/
import Derived.Test.YtbenjenifklejaaDoorEref5
namespace Go.Proofs.YtbenjenifklejaaDoor
open Go.ChangeShapes Go.WideShapes Go.ChangeAt Go.RowKit

theorem igets_three (l : List UInt8) (a : Int) (h : (Ev.igets (List.replicate 3 true) l a).2.2 = 0) : ∃ x y z, (Ev.igets (List.replicate 3 true) l a).1 = [.n x, .n y, .n z] := by
  have e3 := igets_rep l a 2
  have e2 := igets_rep l a 1
  have e1 := igets_rep l a 0
  rw [e3] at h ⊢
  obtain ⟨h2, _, q3⟩ := Ev.istep_list l _ true h
  rw [q3]
  rw [e2] at h2 ⊢
  obtain ⟨h1, _, q2⟩ := Ev.istep_list l _ true h2
  rw [q2]
  rw [e1] at h1 ⊢
  obtain ⟨_, _, q1⟩ := Ev.istep_list l _ true h1
  rw [q1]
  exact ⟨_, _, _, rfl⟩
theorem kinds_three (l : List UInt8) (a : Int) : Ev.igets Ev.kinds l a = Ev.istep l (Ev.istep l (Ev.igets (List.replicate 3 true) l a) false) false :=
  (Ev.igets_snoc [true, true, true, false] false l a).trans (congrArg (fun z => Ev.istep l z false) (Ev.igets_snoc [true, true, true] false l a))
theorem get_bad3 (l : List UInt8) (a : Int) (h : (Ev.igets (List.replicate 3 true) l a).2.2 ≠ 0) : Ev.get l a = (.zero, 0, (Ev.igets (List.replicate 3 true) l a).2.2) := by
  have e : Ev.igets Ev.kinds l a = Ev.igets (List.replicate 3 true) l a := by rw [kinds_three, Ev.istep_bad l _ false h, Ev.istep_bad l _ false h]
  rw [Ev.get, e, if_pos h]
theorem get_bad4 (l : List UInt8) (a : Int) (xs : List Ev.It) (p : Int) (h : Ev.igets (List.replicate 3 true) l a = (xs, p, 0)) (h2 : (vcut l p).2.2 ≠ 0) : Ev.get l a = (.zero, 0, (vcut l p).2.2) := by
  have e4 : Ev.istep l (xs, p, 0) false = ([], 0, (vcut l p).2.2) := by rw [Ev.istep, if_pos rfl, Ev.iget_t, if_neg h2]
  have e : Ev.igets Ev.kinds l a = ([], 0, (vcut l p).2.2) := by rw [kinds_three, h, e4, Ev.istep_bad l _ false h2]
  rw [Ev.get, e, if_pos h2]
theorem get_bad5 (l : List UInt8) (a : Int) (xs : List Ev.It) (p : Int) (t : List UInt8) (q : Nat) (h : Ev.igets (List.replicate 3 true) l a = (xs, p, 0)) (h2 : vcut l p = (t, q, 0)) (h3 : (vcut l q).2.2 ≠ 0) : Ev.get l a = (.zero, 0, (vcut l q).2.2) := by
  have e4 : Ev.istep l (xs, p, 0) false = (xs ++ [.t t], (q : Int), 0) := Ev.istep_ok l xs p false (.t t) q (by rw [Ev.iget_t, h2])
  have e5 : Ev.istep l (xs ++ [.t t], (q : Int), 0) false = ([], 0, (vcut l q).2.2) := by rw [Ev.istep, if_pos rfl, Ev.iget_t, if_neg h3]
  have e : Ev.igets Ev.kinds l a = ([], 0, (vcut l q).2.2) := by rw [kinds_three, h, e4, e5]
  rw [Ev.get, e, if_pos h3]
theorem get_good (l : List UInt8) (a : Int) (x y z : Nat) (p : Int) (t u : List UInt8) (q r : Nat) (h : Ev.igets (List.replicate 3 true) l a = ([.n x, .n y, .n z], p, 0)) (h2 : vcut l p = (t, q, 0)) (h3 : vcut l q = (u, r, 0)) :
    Ev.get l a = if Ev.right ⟨Ev.clip x, Ev.clip y, ⟨t.toArray⟩, ⟨u.toArray⟩, Ev.clip z⟩ then (⟨Ev.clip x, Ev.clip y, ⟨t.toArray⟩, ⟨u.toArray⟩, Ev.clip z⟩, r, 0) else (.zero, 0, 4) := by
  have e4 : Ev.istep l ([.n x, .n y, .n z], p, 0) false = ([.n x, .n y, .n z] ++ [.t t], (q : Int), 0) := Ev.istep_ok l _ p false (.t t) q (by rw [Ev.iget_t, h2])
  have e5 : Ev.istep l ([.n x, .n y, .n z] ++ [.t t], (q : Int), 0) false = ([.n x, .n y, .n z] ++ [.t t] ++ [.t u], (r : Int), 0) := Ev.istep_ok l _ q false (.t u) r (by rw [Ev.iget_t, h3])
  have e : Ev.igets Ev.kinds l a = ([.n x, .n y, .n z] ++ [.t t] ++ [.t u], (r : Int), 0) := by rw [kinds_three, h, e4, e5]
  rw [Ev.get, e, if_neg (by simp)]
  rfl
theorem vcut_le (l : List UInt8) (a : Int) : (vcut l a).1.length ≤ l.length ∧ (vcut l a).2.1 ≤ l.length ∧ (vcut l a).2.2 ≤ 4 := by
  have h := Ev.iget_le false l a
  rw [Ev.iget_t] at h
  refine ⟨?_, h.1, h.2⟩
  unfold vcut
  split
  · simp
  · split
    · simp
    · split
      · simp
      · simp only [List.length_take, List.length_drop]; omega
/-- what a row of numbers holds -/
theorem OwnNs.at {w : World} {base : Nat} {v : Value} {xs : List Nat} (h : OwnNs w base v xs) (hn : xs ≠ []) : ∃ g cap, v = .slice (some ⟨g, 0, none⟩) xs.length cap ∧ xs.length ≤ cap ∧ g < w.heap.size ∧ ∀ i x, xs[i]? = some x → w.cell? ⟨g, i, none⟩ = some (.int .i64 (Ev.clip x)) := by
  have h' := h
  obtain ⟨hl, hr⟩ := h
  rcases hr with ⟨_, h0⟩ | ⟨g, cap, cur, hv, hb, hg, hlen, hcap, h1, h2⟩
  · exact absurd (List.eq_nil_of_length_eq_zero h0) hn
  · subst hv
    refine ⟨g, cap, rfl, hlen, heap_lt hg, fun i x hx => ?_⟩
    have hi : i < xs.length := (List.getElem?_eq_some_iff.1 hx).1
    rw [World.ownsRow.cellAt h' i (by omega), List.getElem?_map, hx]
    rfl
theorem OwnNs.kept {w w' : World} {base : Nat} {v : Value} {xs : List Nat} (h : OwnNs w base v xs) (k : Kept w w') : OwnNs w' base v xs := own_kept h k
theorem ret_rev (R : Nat) (tmps : Array Value) (W : World) (E : Ev.E) (p f : Int) (h4 : tmps[4]?.getD undef = .pointer (some ⟨R, 0, none⟩)) (h5 : tmps[5]?.getD undef = .int .i64 p) (h6 : tmps[6]?.getD undef = .int .i64 f) (hb : Blk W R (evc E) 23) :
    (results Tryd.f23 tmps).run Tryd.prog W = .ok (.tuple #[evv E, .int .i64 p, .int .i64 f]) W := by
  unfold evc at hb
  have c0 := hb.cell 0
  have c1 := hb.cell 1
  have c2 := hb.cell 2
  have c3 := hb.cell 3
  have c4 := hb.cell 4
  simp only [List.getElem?_toArray, List.getElem?_cons_zero, List.getElem?_cons_succ] at c0 c1 c2 c3 c4
  simp [results, Tryd.f23, go_sem, h4, h5, h6, c0, c1, c2, c3, c4, evv]

set_option maxHeartbeats 2000000 in
set_option maxRecDepth 100000 in
theorem rget_any (s : ByteArray) (a : Int) (w : World) (hs : s.size ≤ 1000) (h1 : -9223372036854775808 ≤ a) (h2 : a ≤ 9223372036854775807) :
    Calls Tryd.prog 23 #[.string s, .int .i64 a] w fun r w' => r = .returned (tupe (Ev.get s.data.toList a)) ∧ Kept w w' := by
  have Hsl := Lib.hid (size_len s)
  have hfair : Fair (Ev.igets (List.replicate 3 true) s.data.toList a) := fold_fair _ (by rw [size_len]; omega) _ _ ⟨h1, h2, Nat.zero_le _⟩
  have Hb3 := Lib.hid (get_bad3 s.data.toList a)
  have Hi3 := Lib.hid (igets_three s.data.toList a)
  have hnu := nums_any s a 3
  obtain ⟨⟨its, p, e⟩, hg⟩ : ∃ x, x = Ev.igets (List.replicate 3 true) s.data.toList a := ⟨_, rfl⟩
  rw [← hg] at hfair Hb3 Hi3 hnu
  obtain ⟨q0, q1, q2⟩ := hfair
  simp only at q0 q1 q2
  have Hg := Lib.hid hg
  have Hnu := Lib.hid hnu
  have hRR : w.heap.size ≤ w.heap.size := Nat.le_refl _
  clear hg hnu
  go_enter Tryd.func23, Tryd.ntmps23
  go_wp2_with fail
  refine (Hnu.out _ hs h1 h2 (by omega)).mono ?_
  rintro r w1 hres
  have bR0 := Blk.made w #[.int .i64 0, .int .i64 0, .string ⟨#[]⟩, .string ⟨#[]⟩, .int .i64 0] 23
  have kR0 : Kept w (w.alloc (.cells #[.int .i64 0, .int .i64 0, .string ⟨#[]⟩, .string ⟨#[]⟩, .int .i64 0] 23)) := (Kept.refl w).alloc _
  unfold NumRes at hres
  simp only at hres
  by_cases he : e = 0
  · rw [if_pos he] at hres
    obtain ⟨v, rfl, hown, k1⟩ := hres
    subst he
    obtain ⟨x, y, z, hxyz⟩ := Hi3.out rfl
    obtain rfl : its = [.n x, .n y, .n z] := hxyz
    have B1 := Lib.hid (bR0.kept k1)
    have K1 := Lib.hid (kR0.trans k1)
    have HO1 := Lib.hid hown
    clear bR0 kR0 k1 hown
    have hle := vcut_le s.data.toList p
    have hb4 := get_bad4 s.data.toList a _ p Hg.out.symm
    obtain ⟨⟨t, q, e4⟩, hv4⟩ : ∃ x, x = vcut s.data.toList p := ⟨_, rfl⟩
    rw [← hv4, Hsl.out] at hle
    rw [← hv4] at hb4
    obtain ⟨l1, l2, l3⟩ := hle
    simp only at l1 l2 l3 hb4
    have Hv4 := Lib.hid hv4
    have Hb4 := Lib.hid hb4
    clear hv4 hb4
    go_wp2_with fail
    refine (refcut_any s p _ hs q0 q1).mono ?_
    rintro r w2 ⟨rfl, k2⟩
    rw [← Hv4.out]
    unfold tups
    simp only
    obtain ⟨T, hT, sT, lT⟩ := name_row t
    rw [hT]
    rw [← sT] at l1
    have B2 := Lib.hid (B1.out.kept k2)
    have K2 := Lib.hid (K1.out.trans k2)
    have HO2 := Lib.hid (HO1.out.kept k2)
    have HTt := Lib.hid hT
    clear k2 hT sT
    by_cases he4 : e4 = 0
    · subst he4
      have hle := vcut_le s.data.toList q
      have hb5 := get_bad5 s.data.toList a _ p t q Hg.out.symm Hv4.out.symm
      have hgd := get_good s.data.toList a x y z p t
      obtain ⟨⟨u, rr, e5⟩, hv5⟩ : ∃ x, x = vcut s.data.toList q := ⟨_, rfl⟩
      rw [← hv5, Hsl.out] at hle
      rw [← hv5] at hb5
      obtain ⟨m1, m2, m3⟩ := hle
      simp only at m1 m2 m3 hb5
      have Hv5 := Lib.hid hv5
      have Hb5 := Lib.hid hb5
      have Hgd := Lib.hid hgd
      clear hv5 hb5 hgd
      go_wp2_with fail
      refine (refcut_any s q _ hs (by omega) (by omega)).mono ?_
      rintro r w3 ⟨rfl, k3⟩
      rw [← Hv5.out]
      unfold tups
      simp only
      obtain ⟨U, hU, sU, lU⟩ := name_row u
      rw [hU]
      rw [← sU] at m1
      have b3 := B2.out.kept k3
      have K3 := Lib.hid (K2.out.trans k3)
      have ho3 := HO2.out.kept k3
      have HUu := Lib.hid hU
      clear k3 hU sU
      by_cases he5 : e5 = 0
      · subst he5
        have hgood := Hgd.out u q rr Hg.out.symm Hv4.out.symm Hv5.out.symm
        obtain ⟨g, cap, rfl, hcap, hgl, hc⟩ := ho3.at (by simp [numsOf])
        have d0 := hc 0 x rfl
        have d1 := hc 1 y rfl
        have d2 := hc 2 z rfl
        have hcl : ∀ n, Ev.clip n ≤ 1099511627777 := fun n => by unfold Ev.clip; omega
        have c1 := hcl x
        have c2 := hcl y
        have c3 := hcl z
        have hlen3 : (numsOf [Ev.It.n x, .n y, .n z]).length = 3 := rfl
        rw [hlen3] at hcap ⊢
        rw [show (⟨t.toArray⟩ : ByteArray) = T from by have := HTt.out; simp only [str, Value.string.injEq] at this; exact this, show (⟨u.toArray⟩ : ByteArray) = U from by have := HUu.out; simp only [str, Value.string.injEq] at this; exact this] at hgood
        have Hgood := Lib.hid hgood
        have B3 := Lib.hid b3
        clear hc hcl hgood b3 ho3 hlen3
        go_wp2_with fail
        go_region
        have bE := Blk.made w3 (evc ⟨Ev.clip x, Ev.clip y, T, U, Ev.clip z⟩) 23
        have kE : Kept w3 (w3.alloc (.cells (evc ⟨Ev.clip x, Ev.clip y, T, U, Ev.clip z⟩) 23)).drew := ((Kept.refl w3).alloc _).drew
        unfold evc at bE kE
        simp only at bE kE
        obtain ⟨W, hW⟩ : ∃ W, W = (w3.alloc (.cells #[.int .i64 (Ev.clip x : Int), .int .i64 (Ev.clip y : Int), .string T, .string U, .int .i64 (Ev.clip z : Int)] 23)).drew := ⟨_, rfl⟩
        have bE2 : Blk W w3.heap.size #[.int .i64 (Ev.clip x : Int), .int .i64 (Ev.clip y : Int), .string T, .string U, .int .i64 (Ev.clip z : Int)] 23 := by rw [hW]; exact bE
        rw [← hW] at kE ⊢
        have BW := Lib.hid (B3.out.kept kE)
        have KW3 := Lib.hid (K3.out.trans kE)
        have x0 := bE2.cell 0
        have x1 := bE2.cell 1
        have x2 := bE2.cell 2
        have x3 := bE2.cell 3
        have x4 := bE2.cell 4
        simp only [List.getElem?_toArray, List.getElem?_cons_zero, List.getElem?_cons_succ] at x0 x1 x2 x3 x4
        have BE2 := Lib.hid bE2
        have hfit : Fit ⟨Ev.clip x, Ev.clip y, T, U, Ev.clip z⟩ := by constructor <;> simp only <;> omega
        have Hfit := Lib.hid hfit
        clear hW bE bE2 kE d0 d1 d2 hfit
        go_wp2_with fail
        refine (rright_ev ⟨Ev.clip x, Ev.clip y, T, U, Ev.clip z⟩ W Hfit.out (by simp only; omega)).mono ?_
        rintro r w5 ⟨rfl, k5⟩
        have bR := BW.out.kept k5
        have bE := BE2.out.kept k5
        have K5 := Lib.hid (KW3.out.trans k5)
        clear x0 x1 x2 x3 x4
        have x0 := bE.cell 0
        have x1 := bE.cell 1
        have x2 := bE.cell 2
        have x3 := bE.cell 3
        have x4 := bE.cell 4
        simp only [List.getElem?_toArray, List.getElem?_cons_zero, List.getElem?_cons_succ] at x0 x1 x2 x3 x4
        have r0 := bR.cell 0
        have r1 := bR.cell 1
        have r2 := bR.cell 2
        have r3 := bR.cell 3
        have r4 := bR.cell 4
        have f0 := bR.frozen 0
        have f1 := bR.frozen 1
        have f2 := bR.frozen 2
        have f3 := bR.frozen 3
        have f4 := bR.frozen 4
        simp only [List.getElem?_toArray, List.getElem?_cons_zero, List.getElem?_cons_succ] at r0 r1 r2 r3 r4
        have BR := Lib.hid bR
        clear bR bE k5
        have hgood := Hgood.out
        clear Hgood
        generalize Ev.right ⟨Ev.clip x, Ev.clip y, T, U, Ev.clip z⟩ = B at hgood ⊢
        cases B
        · have HC := Lib.hid hgood
          clear hgood
          go_wp2
          refine bodyPost_ret (ret_rev w.heap.size _ _ .zero _ _ rfl rfl rfl (set_ev _ _ .zero .zero BR.out)) rfl ⟨?_, set_kept _ _ _ _ _ _ _ _ K5.out hRR⟩
          rw [HC.out]
          rfl
        · have HC := Lib.hid hgood
          clear hgood
          go_wp2
          refine bodyPost_ret (ret_rev w.heap.size _ _ ⟨Ev.clip x, Ev.clip y, T, U, Ev.clip z⟩ _ _ rfl rfl rfl (set_ev _ _ .zero ⟨Ev.clip x, Ev.clip y, T, U, Ev.clip z⟩ BR.out)) rfl ⟨?_, set_kept _ _ _ _ _ _ _ _ K5.out hRR⟩
          rw [HC.out]
          rfl
      · have he2 : ((e5 : Int) == 0) = false := by simp only [beq_eq_false_iff_ne]; omega
        have he3 : ((e5 : Int) != 0) = true := by simp [bne, he2]
        have HC := Lib.hid (Hb5.out he5)
        have bR := b3
        have r0 := bR.cell 0
        have r1 := bR.cell 1
        have r2 := bR.cell 2
        have r3 := bR.cell 3
        have r4 := bR.cell 4
        have f0 := bR.frozen 0
        have f1 := bR.frozen 1
        have f2 := bR.frozen 2
        have f3 := bR.frozen 3
        have f4 := bR.frozen 4
        simp only [List.getElem?_toArray, List.getElem?_cons_zero, List.getElem?_cons_succ] at r0 r1 r2 r3 r4
        have BR := Lib.hid bR
        clear bR b3 ho3
        go_wp2
        refine bodyPost_ret (ret_rev w.heap.size _ _ .zero _ _ rfl rfl rfl (set_ev _ _ .zero .zero BR.out)) rfl ⟨?_, set_kept _ _ _ _ _ _ _ _ K3.out hRR⟩
        rw [HC.out]
        rfl
    · have he2 : ((e4 : Int) == 0) = false := by simp only [beq_eq_false_iff_ne]; omega
      have he3 : ((e4 : Int) != 0) = true := by simp [bne, he2]
      have HC := Lib.hid (Hb4.out he4)
      have bR := B2.out
      have r0 := bR.cell 0
      have r1 := bR.cell 1
      have r2 := bR.cell 2
      have r3 := bR.cell 3
      have r4 := bR.cell 4
      have f0 := bR.frozen 0
      have f1 := bR.frozen 1
      have f2 := bR.frozen 2
      have f3 := bR.frozen 3
      have f4 := bR.frozen 4
      simp only [List.getElem?_toArray, List.getElem?_cons_zero, List.getElem?_cons_succ] at r0 r1 r2 r3 r4
      have BR := Lib.hid bR
      clear bR
      go_wp2
      refine bodyPost_ret (ret_rev w.heap.size _ _ .zero _ _ rfl rfl rfl (set_ev _ _ .zero .zero BR.out)) rfl ⟨?_, set_kept _ _ _ _ _ _ _ _ K2.out hRR⟩
      rw [HC.out]
      rfl
  · rw [if_neg he] at hres
    obtain ⟨rfl, k1⟩ := hres
    have he2 : ((e : Int) == 0) = false := by simp only [beq_eq_false_iff_ne]; omega
    have he3 : ((e : Int) != 0) = true := by simp [bne, he2]
    have HC := Lib.hid (Hb3.out he)
    have b1 := bR0.kept k1
    have K1 := Lib.hid (kR0.trans k1)
    have r0 := b1.cell 0
    have r1 := b1.cell 1
    have r2 := b1.cell 2
    have r3 := b1.cell 3
    have r4 := b1.cell 4
    have f0 := b1.frozen 0
    have f1 := b1.frozen 1
    have f2 := b1.frozen 2
    have f3 := b1.frozen 3
    have f4 := b1.frozen 4
    simp only [List.getElem?_toArray, List.getElem?_cons_zero, List.getElem?_cons_succ] at r0 r1 r2 r3 r4
    have BR := Lib.hid b1
    clear b1 k1 bR0 kR0
    go_wp2
    refine bodyPost_ret (ret_rev w.heap.size _ _ .zero _ _ rfl rfl rfl (set_ev _ _ .zero .zero BR.out)) rfl ⟨?_, set_kept _ _ _ _ _ _ _ _ K1.out hRR⟩
    rw [HC.out]
    rfl
end Go.Proofs.YtbenjenifklejaaDoor
