/-
  The document's own: the walk of rivuletref06.Cut.
-/
import Derived.Test.YtbenjenifklejaaDoorEref5
import Derived.Deep.RegionLaw
namespace Go.Proofs.YtbenjenifklejaaDoor
open Go.ChangeShapes Go.WideShapes Go.ChangeAt Go.RowKit

theorem igets_three (l : List UInt8) (a : Int) (h : (Ev.igets (List.replicate 3 true) l a).2.2 = 0) : ∃ x y z, (Ev.igets (List.replicate 3 true) l a).1 = [.n x, .n y, .n z] := by
  have e3 := igets_rep l a 2
  have e2 := igets_rep l a 1
  have e1 := igets_rep l a 0
  rw [e3] at h ⊢
  obtain ⟨h2, _, q3⟩ := Ev.istep_list l _ true h
  rw [q3]
  rw [e2] at h2 ⊢
  obtain ⟨h1, _, q2⟩ := Ev.istep_list l _ true h2
  rw [q2]
  rw [e1] at h1 ⊢
  obtain ⟨_, _, q1⟩ := Ev.istep_list l _ true h1
  rw [q1]
  exact ⟨_, _, _, rfl⟩
theorem kinds_three (l : List UInt8) (a : Int) : Ev.igets Ev.kinds l a = Ev.istep l (Ev.istep l (Ev.igets (List.replicate 3 true) l a) false) false :=
  (Ev.igets_snoc [true, true, true, false] false l a).trans (congrArg (fun z => Ev.istep l z false) (Ev.igets_snoc [true, true, true] false l a))
theorem get_bad3 (l : List UInt8) (a : Int) (h : (Ev.igets (List.replicate 3 true) l a).2.2 ≠ 0) : Ev.get l a = (.zero, 0, (Ev.igets (List.replicate 3 true) l a).2.2) := by
  have e : Ev.igets Ev.kinds l a = Ev.igets (List.replicate 3 true) l a := by rw [kinds_three, Ev.istep_bad l _ false h, Ev.istep_bad l _ false h]
  rw [Ev.get, e, if_pos h]
theorem get_bad4 (l : List UInt8) (a : Int) (xs : List Ev.It) (p : Int) (h : Ev.igets (List.replicate 3 true) l a = (xs, p, 0)) (h2 : (vcut l p).2.2 ≠ 0) : Ev.get l a = (.zero, 0, (vcut l p).2.2) := by
  have e4 : Ev.istep l (xs, p, 0) false = ([], 0, (vcut l p).2.2) := by rw [Ev.istep, if_pos rfl, Ev.iget_t, if_neg h2]
  have e : Ev.igets Ev.kinds l a = ([], 0, (vcut l p).2.2) := by rw [kinds_three, h, e4, Ev.istep_bad l _ false h2]
  rw [Ev.get, e, if_pos h2]
theorem get_bad5 (l : List UInt8) (a : Int) (xs : List Ev.It) (p : Int) (t : List UInt8) (q : Nat) (h : Ev.igets (List.replicate 3 true) l a = (xs, p, 0)) (h2 : vcut l p = (t, q, 0)) (h3 : (vcut l q).2.2 ≠ 0) : Ev.get l a = (.zero, 0, (vcut l q).2.2) := by
  have e4 : Ev.istep l (xs, p, 0) false = (xs ++ [.t t], (q : Int), 0) := Ev.istep_ok l xs p false (.t t) q (by rw [Ev.iget_t, h2])
  have e5 : Ev.istep l (xs ++ [.t t], (q : Int), 0) false = ([], 0, (vcut l q).2.2) := by rw [Ev.istep, if_pos rfl, Ev.iget_t, if_neg h3]
  have e : Ev.igets Ev.kinds l a = ([], 0, (vcut l q).2.2) := by rw [kinds_three, h, e4, e5]
  rw [Ev.get, e, if_pos h3]
theorem get_good (l : List UInt8) (a : Int) (x y z : Nat) (p : Int) (t u : List UInt8) (q r : Nat) (h : Ev.igets (List.replicate 3 true) l a = ([.n x, .n y, .n z], p, 0)) (h2 : vcut l p = (t, q, 0)) (h3 : vcut l q = (u, r, 0)) :
    Ev.get l a = if Ev.right ⟨Ev.clip x, Ev.clip y, ⟨t.toArray⟩, ⟨u.toArray⟩, Ev.clip z⟩ then (⟨Ev.clip x, Ev.clip y, ⟨t.toArray⟩, ⟨u.toArray⟩, Ev.clip z⟩, r, 0) else (.zero, 0, 4) := by
  have e4 : Ev.istep l ([.n x, .n y, .n z], p, 0) false = ([.n x, .n y, .n z] ++ [.t t], (q : Int), 0) := Ev.istep_ok l _ p false (.t t) q (by rw [Ev.iget_t, h2])
  have e5 : Ev.istep l ([.n x, .n y, .n z] ++ [.t t], (q : Int), 0) false = ([.n x, .n y, .n z] ++ [.t t] ++ [.t u], (r : Int), 0) := Ev.istep_ok l _ q false (.t u) r (by rw [Ev.iget_t, h3])
  have e : Ev.igets Ev.kinds l a = ([.n x, .n y, .n z] ++ [.t t] ++ [.t u], (r : Int), 0) := by rw [kinds_three, h, e4, e5]
  rw [Ev.get, e, if_neg (by simp)]
  rfl
theorem vcut_le (l : List UInt8) (a : Int) : (vcut l a).1.length ≤ l.length ∧ (vcut l a).2.1 ≤ l.length ∧ (vcut l a).2.2 ≤ 4 := by
  have h := Ev.iget_le false l a
  rw [Ev.iget_t] at h
  refine ⟨?_, h.1, h.2⟩
  unfold vcut
  split
  · simp
  · split
    · simp
    · split
      · simp
      · simp only [List.length_take, List.length_drop]; omega
/-- what a row of numbers holds -/
theorem OwnNs.at {w : World} {base : Nat} {v : Value} {xs : List Nat} (h : OwnNs w base v xs) (hn : xs ≠ []) : ∃ g cap, v = .slice (some ⟨g, 0, none⟩) xs.length cap ∧ xs.length ≤ cap ∧ g < w.heap.size ∧ ∀ i x, xs[i]? = some x → w.cell? ⟨g, i, none⟩ = some (.int .i64 (Ev.clip x)) := by
  have h' := h
  obtain ⟨hl, hr⟩ := h
  rcases hr with ⟨_, h0⟩ | ⟨g, cap, cur, hv, hb, hg, hlen, hcap, h1, h2⟩
  · exact absurd (List.eq_nil_of_length_eq_zero h0) hn
  · subst hv
    refine ⟨g, cap, rfl, hlen, heap_lt hg, fun i x hx => ?_⟩
    have hi : i < xs.length := (List.getElem?_eq_some_iff.1 hx).1
    rw [World.ownsRow.cellAt h' i (by omega), List.getElem?_map, hx]
    rfl
theorem OwnNs.kept {w w' : World} {base : Nat} {v : Value} {xs : List Nat} (h : OwnNs w base v xs) (k : Kept w w') : OwnNs w' base v xs := own_kept h k
theorem ret_rev (R : Nat) (tmps : Array Value) (W : World) (E : Ev.E) (p f : Int) (h4 : tmps[4]?.getD undef = .pointer (some ⟨R, 0, none⟩)) (h5 : tmps[5]?.getD undef = .int .i64 p) (h6 : tmps[6]?.getD undef = .int .i64 f) (hb : Blk W R (evc E) 23) :
    (results Tryd.f23 tmps).run Tryd.prog W = .ok (.tuple #[evv E, .int .i64 p, .int .i64 f]) W := by
  unfold evc at hb
  have c0 := hb.cell 0
  have c1 := hb.cell 1
  have c2 := hb.cell 2
  have c3 := hb.cell 3
  have c4 := hb.cell 4
  simp only [List.getElem?_toArray, List.getElem?_cons_zero, List.getElem?_cons_succ] at c0 c1 c2 c3 c4
  simp [results, Tryd.f23, go_sem, h4, h5, h6, c0, c1, c2, c3, c4, evv]

set_option maxHeartbeats 2000000 in
set_option maxRecDepth 100000 in
theorem rget_any (s : ByteArray) (a : Int) (w : World) (hs : s.size ≤ 1000) (h1 : -9223372036854775808 ≤ a) (h2 : a ≤ 9223372036854775807) :
    Calls Tryd.prog 23 #[.string s, .int .i64 a] w fun r w' => r = .returned (tupe (Ev.get s.data.toList a)) ∧ Kept w w' := by
  have Hsl := Lib.hid (size_len s)
  have hfair : Fair (Ev.igets (List.replicate 3 true) s.data.toList a) := fold_fair _ (by rw [size_len]; omega) _ _ ⟨h1, h2, Nat.zero_le _⟩
  have Hb3 := Lib.hid (get_bad3 s.data.toList a)
  have Hi3 := Lib.hid (igets_three s.data.toList a)
  have hnu := nums_any s a 3
  obtain ⟨⟨its, p, e⟩, hg⟩ : ∃ x, x = Ev.igets (List.replicate 3 true) s.data.toList a := ⟨_, rfl⟩
  rw [← hg] at hfair Hb3 Hi3 hnu
  obtain ⟨q0, q1, q2⟩ := hfair
  simp only at q0 q1 q2
  have Hg := Lib.hid hg
  have Hnu := Lib.hid hnu
  have hRR : w.heap.size ≤ w.heap.size := Nat.le_refl _
  clear hg hnu
  go_enter Tryd.func23, Tryd.ntmps23
  go_wp2_with fail
  refine (Hnu.out _ hs h1 h2 (by omega)).mono ?_
  rintro r w1 hres
  have bR0 := Blk.made w #[.int .i64 0, .int .i64 0, .string ⟨#[]⟩, .string ⟨#[]⟩, .int .i64 0] 23
  have kR0 : Kept w (w.alloc (.cells #[.int .i64 0, .int .i64 0, .string ⟨#[]⟩, .string ⟨#[]⟩, .int .i64 0] 23)) := (Kept.refl w).alloc _
  unfold NumRes at hres
  simp only at hres
  by_cases he : e = 0
  · rw [if_pos he] at hres
    obtain ⟨v, rfl, hown, k1⟩ := hres
    subst he
    obtain ⟨x, y, z, hxyz⟩ := Hi3.out rfl
    obtain rfl : its = [.n x, .n y, .n z] := hxyz
    have B1 := Lib.hid (bR0.kept k1)
    have K1 := Lib.hid (kR0.trans k1)
    have HO1 := Lib.hid hown
    clear bR0 kR0 k1 hown
    have hle := vcut_le s.data.toList p
    have hb4 := get_bad4 s.data.toList a _ p Hg.out.symm
    obtain ⟨⟨t, q, e4⟩, hv4⟩ : ∃ x, x = vcut s.data.toList p := ⟨_, rfl⟩
    rw [← hv4, Hsl.out] at hle
    rw [← hv4] at hb4
    obtain ⟨l1, l2, l3⟩ := hle
    simp only at l1 l2 l3 hb4
    have Hv4 := Lib.hid hv4
    have Hb4 := Lib.hid hb4
    clear hv4 hb4
    go_wp2_with fail
    refine (refcut_any s p _ hs q0 q1).mono ?_
    rintro r w2 ⟨rfl, k2⟩
    rw [← Hv4.out]
    unfold tups
    simp only
    obtain ⟨T, hT, sT, lT⟩ := name_row t
    rw [hT]
    rw [← sT] at l1
    have B2 := Lib.hid (B1.out.kept k2)
    have K2 := Lib.hid (K1.out.trans k2)
    have HO2 := Lib.hid (HO1.out.kept k2)
    have HTt := Lib.hid hT
    clear k2 hT sT
    by_cases he4 : e4 = 0
    · subst he4
      have hle := vcut_le s.data.toList q
      have hb5 := get_bad5 s.data.toList a _ p t q Hg.out.symm Hv4.out.symm
      have hgd := get_good s.data.toList a x y z p t
      obtain ⟨⟨u, rr, e5⟩, hv5⟩ : ∃ x, x = vcut s.data.toList q := ⟨_, rfl⟩
      rw [← hv5, Hsl.out] at hle
      rw [← hv5] at hb5
      obtain ⟨m1, m2, m3⟩ := hle
      simp only at m1 m2 m3 hb5
      have Hv5 := Lib.hid hv5
      have Hb5 := Lib.hid hb5
      have Hgd := Lib.hid hgd
      clear hv5 hb5 hgd
      go_wp2_with fail
      refine (refcut_any s q _ hs (by omega) (by omega)).mono ?_
      rintro r w3 ⟨rfl, k3⟩
      rw [← Hv5.out]
      unfold tups
      simp only
      obtain ⟨U, hU, sU, lU⟩ := name_row u
      rw [hU]
      rw [← sU] at m1
      have b3 := B2.out.kept k3
      have K3 := Lib.hid (K2.out.trans k3)
      have ho3 := HO2.out.kept k3
      have HUu := Lib.hid hU
      clear k3 hU sU
      by_cases he5 : e5 = 0
      · subst he5
        have hgood := Hgd.out u q rr Hg.out.symm Hv4.out.symm Hv5.out.symm
        obtain ⟨g, cap, rfl, hcap, hgl, hc⟩ := ho3.at (by simp [numsOf])
        have d0 := hc 0 x rfl
        have d1 := hc 1 y rfl
        have d2 := hc 2 z rfl
        have hcl : ∀ n, Ev.clip n ≤ 1099511627777 := fun n => by unfold Ev.clip; omega
        have c1 := hcl x
        have c2 := hcl y
        have c3 := hcl z
        have hlen3 : (numsOf [Ev.It.n x, .n y, .n z]).length = 3 := rfl
        rw [hlen3] at hcap ⊢
        rw [show (⟨t.toArray⟩ : ByteArray) = T from by have := HTt.out; simp only [str, Value.string.injEq] at this; exact this, show (⟨u.toArray⟩ : ByteArray) = U from by have := HUu.out; simp only [str, Value.string.injEq] at this; exact this] at hgood
        have Hgood := Lib.hid hgood
        have B3 := Lib.hid b3
        clear hc hcl hgood b3 ho3 hlen3
        go_wp2_with fail
        go_region
        have bE := Blk.made w3 (evc ⟨Ev.clip x, Ev.clip y, T, U, Ev.clip z⟩) 23
        have kE : Kept w3 (w3.alloc (.cells (evc ⟨Ev.clip x, Ev.clip y, T, U, Ev.clip z⟩) 23)).drew := ((Kept.refl w3).alloc _).drew
        unfold evc at bE kE
        simp only at bE kE
        obtain ⟨W, hW⟩ : ∃ W, W = (w3.alloc (.cells #[.int .i64 (Ev.clip x : Int), .int .i64 (Ev.clip y : Int), .string T, .string U, .int .i64 (Ev.clip z : Int)] 23)).drew := ⟨_, rfl⟩
        have bE2 : Blk W w3.heap.size #[.int .i64 (Ev.clip x : Int), .int .i64 (Ev.clip y : Int), .string T, .string U, .int .i64 (Ev.clip z : Int)] 23 := by rw [hW]; exact bE
        rw [← hW] at kE ⊢
        have BW := Lib.hid (B3.out.kept kE)
        have KW3 := Lib.hid (K3.out.trans kE)
        have x0 := bE2.cell 0
        have x1 := bE2.cell 1
        have x2 := bE2.cell 2
        have x3 := bE2.cell 3
        have x4 := bE2.cell 4
        simp only [List.getElem?_toArray, List.getElem?_cons_zero, List.getElem?_cons_succ] at x0 x1 x2 x3 x4
        have BE2 := Lib.hid bE2
        have hfit : Fit ⟨Ev.clip x, Ev.clip y, T, U, Ev.clip z⟩ := by constructor <;> simp only <;> omega
        have Hfit := Lib.hid hfit
        clear hW bE bE2 kE d0 d1 d2 hfit
        go_wp2_with fail
        refine (rright_ev ⟨Ev.clip x, Ev.clip y, T, U, Ev.clip z⟩ W Hfit.out (by simp only; omega)).mono ?_
        rintro r w5 ⟨rfl, k5⟩
        have bR := BW.out.kept k5
        have bE := BE2.out.kept k5
        have K5 := Lib.hid (KW3.out.trans k5)
        clear x0 x1 x2 x3 x4
        have x0 := bE.cell 0
        have x1 := bE.cell 1
        have x2 := bE.cell 2
        have x3 := bE.cell 3
        have x4 := bE.cell 4
        simp only [List.getElem?_toArray, List.getElem?_cons_zero, List.getElem?_cons_succ] at x0 x1 x2 x3 x4
        have r0 := bR.cell 0
        have r1 := bR.cell 1
        have r2 := bR.cell 2
        have r3 := bR.cell 3
        have r4 := bR.cell 4
        have f0 := bR.frozen 0
        have f1 := bR.frozen 1
        have f2 := bR.frozen 2
        have f3 := bR.frozen 3
        have f4 := bR.frozen 4
        simp only [List.getElem?_toArray, List.getElem?_cons_zero, List.getElem?_cons_succ] at r0 r1 r2 r3 r4
        have BR := Lib.hid bR
        clear bR bE k5
        have hgood := Hgood.out
        clear Hgood
        generalize Ev.right ⟨Ev.clip x, Ev.clip y, T, U, Ev.clip z⟩ = B at hgood ⊢
        cases B
        · have HC := Lib.hid hgood
          clear hgood
          go_wp2
          refine bodyPost_ret (ret_rev w.heap.size _ _ .zero _ _ rfl rfl rfl (set_ev _ _ .zero .zero BR.out)) rfl ⟨?_, set_kept _ _ _ _ _ _ _ _ K5.out hRR⟩
          rw [HC.out]
          rfl
        · have HC := Lib.hid hgood
          clear hgood
          go_wp2
          refine bodyPost_ret (ret_rev w.heap.size _ _ ⟨Ev.clip x, Ev.clip y, T, U, Ev.clip z⟩ _ _ rfl rfl rfl (set_ev _ _ .zero ⟨Ev.clip x, Ev.clip y, T, U, Ev.clip z⟩ BR.out)) rfl ⟨?_, set_kept _ _ _ _ _ _ _ _ K5.out hRR⟩
          rw [HC.out]
          rfl
      · have he2 : ((e5 : Int) == 0) = false := by simp only [beq_eq_false_iff_ne]; omega
        have he3 : ((e5 : Int) != 0) = true := by simp [bne, he2]
        have HC := Lib.hid (Hb5.out he5)
        have bR := b3
        have r0 := bR.cell 0
        have r1 := bR.cell 1
        have r2 := bR.cell 2
        have r3 := bR.cell 3
        have r4 := bR.cell 4
        have f0 := bR.frozen 0
        have f1 := bR.frozen 1
        have f2 := bR.frozen 2
        have f3 := bR.frozen 3
        have f4 := bR.frozen 4
        simp only [List.getElem?_toArray, List.getElem?_cons_zero, List.getElem?_cons_succ] at r0 r1 r2 r3 r4
        have BR := Lib.hid bR
        clear bR b3 ho3
        go_wp2
        refine bodyPost_ret (ret_rev w.heap.size _ _ .zero _ _ rfl rfl rfl (set_ev _ _ .zero .zero BR.out)) rfl ⟨?_, set_kept _ _ _ _ _ _ _ _ K3.out hRR⟩
        rw [HC.out]
        rfl
    · have he2 : ((e4 : Int) == 0) = false := by simp only [beq_eq_false_iff_ne]; omega
      have he3 : ((e4 : Int) != 0) = true := by simp [bne, he2]
      have HC := Lib.hid (Hb4.out he4)
      have bR := B2.out
      have r0 := bR.cell 0
      have r1 := bR.cell 1
      have r2 := bR.cell 2
      have r3 := bR.cell 3
      have r4 := bR.cell 4
      have f0 := bR.frozen 0
      have f1 := bR.frozen 1
      have f2 := bR.frozen 2
      have f3 := bR.frozen 3
      have f4 := bR.frozen 4
      simp only [List.getElem?_toArray, List.getElem?_cons_zero, List.getElem?_cons_succ] at r0 r1 r2 r3 r4
      have BR := Lib.hid bR
      clear bR
      go_wp2
      refine bodyPost_ret (ret_rev w.heap.size _ _ .zero _ _ rfl rfl rfl (set_ev _ _ .zero .zero BR.out)) rfl ⟨?_, set_kept _ _ _ _ _ _ _ _ K2.out hRR⟩
      rw [HC.out]
      rfl
  · rw [if_neg he] at hres
    obtain ⟨rfl, k1⟩ := hres
    have he2 : ((e : Int) == 0) = false := by simp only [beq_eq_false_iff_ne]; omega
    have he3 : ((e : Int) != 0) = true := by simp [bne, he2]
    have HC := Lib.hid (Hb3.out he)
    have b1 := bR0.kept k1
    have K1 := Lib.hid (kR0.trans k1)
    have r0 := b1.cell 0
    have r1 := b1.cell 1
    have r2 := b1.cell 2
    have r3 := b1.cell 3
    have r4 := b1.cell 4
    have f0 := b1.frozen 0
    have f1 := b1.frozen 1
    have f2 := b1.frozen 2
    have f3 := b1.frozen 3
    have f4 := b1.frozen 4
    simp only [List.getElem?_toArray, List.getElem?_cons_zero, List.getElem?_cons_succ] at r0 r1 r2 r3 r4
    have BR := Lib.hid b1
    clear b1 k1 bR0 kR0
    go_wp2
    refine bodyPost_ret (ret_rev w.heap.size _ _ .zero _ _ rfl rfl rfl (set_ev _ _ .zero .zero BR.out)) rfl ⟨?_, set_kept _ _ _ _ _ _ _ _ K1.out hRR⟩
    rw [HC.out]
    rfl
end Go.Proofs.YtbenjenifklejaaDoor

namespace Go.Proofs.YtbenjenifklejaaDoor
open Go.ChangeShapes Go.WideShapes Go.ChangeAt Go.RowKit

def mcells (m : Ev.M) : List Value := [.int .i64 m.o, .int .i64 m.s]
/-- rows of marks of the call's own -/
def OwnM (w : World) (base : Nat) (v : Value) (ms : List Ev.M) : Prop := w.ownsRow base 59 2 v ms.length (ms.flatMap mcells)
theorem OwnM.kept {w w' : World} {base : Nat} {v : Value} {ms : List Ev.M} (h : OwnM w base v ms) (k : Kept w w') : OwnM w' base v ms := own_kept h k
theorem own_marks (w : World) : OwnM (w.alloc (.cells #[] 59)) w.heap.size (.slice (some ⟨w.heap.size, 0, none⟩) 0 0) [] :=
  ⟨rfl, .inr ⟨w.heap.size, 0, #[], rfl, Nat.le_refl _, heap_alloc_new w _, Nat.le_refl _, Nat.zero_le _, rfl, rfl⟩⟩
theorem flat2 : ∀ (ms : List Ev.M) (i j : Nat), j < 2 → (ms.flatMap mcells)[i * 2 + j]? = (ms[i]?).bind fun m => (mcells m)[j]?
  | [], i, j, _ => by simp
  | m :: ms, 0, j, hj => by
    rw [List.flatMap_cons, List.getElem?_append_left (by simp [mcells]; omega)]
    simp
  | m :: ms, i + 1, j, hj => by
    rw [List.flatMap_cons, List.getElem?_append_right (by simp [mcells]; omega), show (i + 1) * 2 + j - (mcells m).length = i * 2 + j by simp [mcells]; omega, flat2 ms i j hj, List.getElem?_cons_succ]
theorem OwnM.mks {w : World} {base : Nat} {v : Value} {ms : List Ev.M} (h : OwnM w base v ms) (hf : ∀ m ∈ ms, mfit m) : ∃ av cap, v = .slice av ms.length cap ∧ MkS w av cap ms := by
  have h' := h
  obtain ⟨hl, hr⟩ := h
  rcases hr with ⟨rfl, h0⟩ | ⟨g, cap, cur, rfl, hb, hg, hlen, hcap, h1, h2⟩
  · have : ms = [] := List.eq_nil_of_length_eq_zero h0
    subst this
    exact ⟨none, 0, rfl, MkS.nil w⟩
  · unfold maxLen at hcap
    refine ⟨some ⟨g, 0, none⟩, cap, rfl, hlen, by omega, hf, .inr ⟨g, 0, rfl, heap_lt hg, fun i m hm => ?_⟩⟩
    have hi : i < ms.length := (List.getElem?_eq_some_iff.1 hm).1
    have c0 := World.ownsRow.cellAt h' (i * 2) (by omega)
    have c1 := World.ownsRow.cellAt h' (i * 2 + 1) (by omega)
    have e0 := flat2 ms i 0 (by omega)
    have e1 := flat2 ms i 1 (by omega)
    rw [hm] at e0 e1
    rw [Nat.add_zero] at e0
    rw [e0] at c0
    rw [e1] at c1
    simp only [Nat.zero_add]
    exact ⟨c0, c1⟩
theorem mark_cells (w : World) (x y : Int) : ∀ (j : Nat) (u : Value), [Value.int .i64 x, .int .i64 y][j]? = some u → (w.alloc (.cells #[.int .i64 x, .int .i64 y] 59)).cell? ((⟨w.heap.size, 0, none⟩ : Addr).add j) = some u := by
  intro j u hj
  match j, hj with
  | 0, hj => simp at hj; subst hj; simp [Addr.add]
  | 1, hj => simp at hj; subst hj; simp [Addr.add]
theorem mark_one (x y : Int) : ∀ u ∈ [Value.int .i64 x, .int .i64 y], u.oneCell' = true := by
  intro u hu; simp at hu; rcases hu with rfl | rfl <;> rfl
/-- one more mark behind a row of the call's own: a step of a region that draws its order -/
theorem step_mark {w : World} {ops : Array Oper} {o : Oper} {a : Act} {K : Act → World → Prop} {Q : Exit → Act → World → Prop} {E : Prop} {base : Nat} {v : Value} {ms : List Ev.M}
    (hown : OwnM w base v ms) (n : Nat) (hn : ms.length = n) (hx : n ≤ 1000001) (hbase : base ≤ w.heap.size) (m : Ev.M) (hgd : o.guard = none) (s x : Operand)
    (ho : o.op = .call { callee := .builtin .append, args := #[s, x], argTypes := #[34, 34] }) (hs : a.eval s = v) (hxe : a.eval x = .slice (some ⟨w.heap.size, 0, none⟩) 1 1)
    (h : ∀ g cap w', OwnM w' base (.slice (some ⟨g, 0, none⟩) (n + 1) cap) (ms ++ [m]) → Below base w w' → K (a.put o.dst (.slice (some ⟨g, 0, none⟩) (n + 1) cap)) w') :
    if Region.wanted o (yielded ops a.tmps) = true then Oper.wp Tryd.prog o a (w.alloc (.cells #[.int .i64 m.o, .int .i64 m.s] 59)) K Q else E := by
  subst hn
  rw [if_pos (by simp [Region.wanted, hgd])]
  obtain ⟨i0, hi, hz0, hz1, hz2⟩ := info_parts infoMark
  refine wp_append_own _ s x 34 ho base 59 i0 (.agg #[.int .i64 0, .int .i64 0]) 2 16 Tryd.underlying34 hi hz0 hz1 hz2 rfl (by decide) v ms.length (ms.flatMap mcells) hs (World.ownsRow.alloc hown _) ⟨w.heap.size, 0, none⟩ 1 1 [.int .i64 m.o, .int .i64 m.s] hxe rfl (mark_cells _ _ _) (mark_one _ _) (by unfold maxLen; omega) (by omega) (by simp; omega) ?_
  intro v' w' hown' hgrow _
  obtain ⟨g, cap, rfl⟩ : ∃ g cap, v' = .slice (some ⟨g, 0, none⟩) (ms.length + 1) cap := by
    rcases hown'.2 with ⟨_, h0⟩ | ⟨g, cap, _, rfl, _⟩
    · omega
    · exact ⟨g, cap, rfl⟩
  refine h g cap w' ?_ (((Below.refl base w).alloc hbase _).grown hgrow (by simp; omega) fun k hk => ?_)
  · unfold OwnM
    rw [List.length_append, List.length_singleton, List.flatMap_append]
    exact hown'
  · rcases hown.2 with ⟨rfl, _⟩ | ⟨g', cap', _, rfl, hb, _⟩
    · cases hk
    · cases hk; exact hb

theorem numsOf_at : ∀ (xs : List Ev.It) (j k : Nat), xs[j]? = some (.n k) → (numsOf xs)[j]? = some k
  | [], j, k, h => by simp at h
  | .n x :: r, 0, k, h => by simp at h; subst h; rfl
  | .t x :: r, 0, k, h => by simp at h
  | .n x :: r, j + 1, k, h => by rw [List.getElem?_cons_succ] at h; simp only [numsOf, List.getElem?_cons_succ]; exact numsOf_at r j k h
  | .t x :: r, j + 1, k, h => by rw [List.getElem?_cons_succ] at h; simp only [numsOf, List.getElem?_cons_succ]; exact numsOf_at r j k h
/-- numbers by pairs are marks -/
theorem igets_pairs (l : List UInt8) (a : Int) (n : Nat) (h : (Ev.igets (List.replicate (2 * n) true) l a).2.2 = 0) :
    (Ev.igets (List.replicate (2 * n) true) l a).1.length = 2 * n ∧ (Ev.ofPairs (Ev.igets (List.replicate (2 * n) true) l a).1).length = n ∧ (0 ≤ a → 0 ≤ (Ev.igets (List.replicate (2 * n) true) l a).2.1) ∧
    ∀ i, i < n → ∃ p q, (numsOf (Ev.igets (List.replicate (2 * n) true) l a).1)[2 * i]? = some p ∧ (numsOf (Ev.igets (List.replicate (2 * n) true) l a).1)[2 * i + 1]? = some q ∧ (Ev.ofPairs (Ev.igets (List.replicate (2 * n) true) l a).1)[i]? = some ⟨Ev.clip p, Ev.clip q⟩ := by
  have hf := mgot_fst l a (Array.replicate (2 * n) undef) (2 * n)
  have hat := mgot_at l a (Array.replicate (2 * n) undef) (2 * n) (by simp)
  rw [hf] at hat
  obtain ⟨r1, r2, r3⟩ := hat h
  obtain ⟨o1, o2⟩ := ofPairs_at n _ r1 (fun j hj => let ⟨k, k1, _⟩ := r3 j hj; ⟨k, k1⟩)
  refine ⟨r1, o1, r2, fun i hi => ?_⟩
  obtain ⟨p, q, e1, e2, e3⟩ := o2 i hi
  exact ⟨p, q, numsOf_at _ _ _ e1, numsOf_at _ _ _ e2, e3⟩
theorem OwnNs.form {w : World} {base : Nat} {v : Value} {xs : List Nat} (h : OwnNs w base v xs) : ∃ av cap, v = .slice av xs.length cap := by
  rcases h.2 with ⟨rfl, h0⟩ | ⟨g, cap, cur, rfl, _⟩
  · exact ⟨none, 0, by rw [h0]⟩
  · exact ⟨_, _, rfl⟩

set_option maxHeartbeats 2000000 in
set_option maxRecDepth 100000 in
theorem rcut_any (s : ByteArray) (a : Int) (w : World) (hs : s.size ≤ 1000) (h1 : -9223372036854775808 ≤ a) (h2 : a ≤ 9223372036854775807) :
    Calls Tryd.prog 25 #[.string s, .int .i64 a] w (CutRes w (Ev.mcut s.data.toList a)) := by
  have Hsl := Lib.hid (size_len s)
  have hcut : Ev.mcut s.data.toList a = Ev.mcut s.data.toList a := rfl
  conv at hcut => rhs; unfold Ev.mcut
  have hle := vget_le s.data.toList a
  obtain ⟨⟨c, tt, er⟩, hv⟩ : ∃ x, x = vget s.data.toList a := ⟨_, rfl⟩
  rw [← hv, Hsl.out] at hle
  rw [← hv] at hcut
  simp only at hcut hle
  obtain ⟨l1, l2, l3⟩ := hle
  have Hcut := Lib.hid hcut
  have Hv := Lib.hid hv
  clear hcut hv
  go_enter Tryd.func25, Tryd.ntmps25
  go_wp2_with fail
  refine (refget_any s a _ hs h1 h2).mono ?_
  rintro r w1 ⟨rfl, k1⟩
  rw [← Hv.out]
  unfold tup
  simp only
  have K1 := Lib.hid k1
  clear k1
  by_cases he : er = 0
  · subst he
    by_cases hbig : 32 < c
    · have HC : Hid (Ev.mcut s.data.toList a = ([], 0, 2)) := by show _ = _; rw [Hcut.out, if_neg (by simp), if_pos hbig]
      go_wp2
      go_ret3
      exact cutRes_nil HC.out K1.out
    · have hcut := Hcut.out
      rw [if_neg (by simp), if_neg hbig] at hcut
      have hip := igets_pairs s.data.toList tt c
      have hnu := nums_any s tt (2 * c)
      have hfair : Fair (Ev.igets (List.replicate (2 * c) true) s.data.toList tt) := fold_fair _ (by rw [size_len]; omega) _ _ ⟨by simp only; omega, by simp only; omega, Nat.zero_le _⟩
      obtain ⟨⟨its, p, e⟩, hg⟩ : ∃ x, x = Ev.igets (List.replicate (2 * c) true) s.data.toList tt := ⟨_, rfl⟩
      rw [← hg] at hcut hip hnu hfair
      obtain ⟨q0, q1, q2⟩ := hfair
      simp only at hcut hip q0 q1 q2
      have Hcut2 := Lib.hid hcut
      have Hip := Lib.hid hip
      have Hnu := Lib.hid hnu
      have hb3 : decide ((32 : Int) < (c : Int)) = false := by simp; omega
      clear hcut hip hnu hg
      go_wp2_with fail
      have hnn := Hnu.out w1 hs (by omega) (by omega) (by omega)
      rw [show ((2 * c : Nat) : Int) = 2 * (c : Int) by omega] at hnn
      refine hnn.mono ?_
      rintro r w2 hres
      unfold NumRes at hres
      simp only at hres
      clear hnn
      by_cases he : e = 0
      · rw [if_pos he] at hres
        obtain ⟨v, rfl, hown, k2⟩ := hres
        subst he
        obtain ⟨i1, i2, i3, i4⟩ := Hip.out rfl
        have hpos := i3 (by omega)
        obtain ⟨ms, hms⟩ : ∃ ms, ms = Ev.ofPairs its := ⟨_, rfl⟩
        rw [← hms] at Hcut2 i2 i4
        obtain ⟨av, cap, rfl⟩ := hown.form
        rw [numsOf_length, i1]
        have HO := Lib.hid hown
        have I4 := Lib.hid i4
        have I2 := Lib.hid i2
        have I1 := Lib.hid i1
        have K2 := Lib.hid (K1.out.trans k2)
        have hcl : ∀ n, Ev.clip n ≤ 1099511627777 := fun n => by unfold Ev.clip; omega
        have hfit : ∀ m ∈ ms, mfit m := fun m hm => by
          obtain ⟨i, hi⟩ := List.getElem?_of_mem hm
          have hic : i < c := by
            have := (List.getElem?_eq_some_iff.1 hi).1
            omega
          obtain ⟨x, y, _, _, e⟩ := i4 i hic
          rw [hi] at e
          cases e
          have := hcl x
          have := hcl y
          unfold mfit
          simp only
          omega
        have Hfit := Lib.hid hfit
        have Hcl := Lib.hid hcl
        clear hown i4 i2 i1 i3 k2 hms hfit hcl
        go_wp2
        go_loopw [13, 14] (fun ov iv wr => ∃ k : Nat, k ≤ c ∧ iv = .int .i64 ((2 * k : Nat) : Int) ∧ OwnM wr w2.heap.size ov (ms.take k) ∧ Kept w2 wr) (fun _ iv _ => 2 * c - (intOf iv).toNat)
        case atStart => exact ⟨0, by omega, rfl, own_marks w2, (Kept.refl w2).alloc _⟩
        case round =>
          obtain ⟨k, hk, rfl, hom, kr⟩ := hrel
          by_cases hlt : k < c
          · obtain ⟨x, y, e0, e1, em⟩ := I4.out k hlt
            have hkm : k < ms.length := by rw [I2.out]; exact hlt
            have hmk : ms[k] = ⟨Ev.clip x, Ev.clip y⟩ := by
              rw [List.getElem?_eq_getElem hkm] at em
              exact Option.some.inj em
            obtain ⟨g, cap', hv, hcap, hgl, hc⟩ := HO.out.at (by
              intro h0
              rw [h0] at e0
              simp at e0)
            have hd0 := hc (2 * k) x e0
            have hd1 := hc (2 * k + 1) y e1
            have d0 : wr.cell? ⟨g, 2 * k, none⟩ = some (.int .i64 (Ev.clip x)) := (Below.cell kr (p := ⟨g, 2 * k, none⟩) hgl).trans hd0
            have d1 : wr.cell? ⟨g, 2 * k + 1, none⟩ = some (.int .i64 (Ev.clip y)) := (Below.cell kr (p := ⟨g, 2 * k + 1, none⟩) hgl).trans hd1
            have c1 := Hcl.out x
            have c2 := Hcl.out y
            have htk : (ms.take k).length = k := by rw [List.length_take]; omega
            have hnext : ms.take (k + 1) = ms.take k ++ [⟨Ev.clip x, Ev.clip y⟩] := by rw [List.take_succ_eq_append_getElem hkm, hmk]
            obtain ⟨rfl⟩ : av = some ⟨g, 0, none⟩ := by
              simp only [Value.slice.injEq] at hv
              exact hv.1
            have hJ : ((2 * k : Nat) : Int) + 1 < ((2 * c : Nat) : Int) := by omega
            obtain ⟨J, hJe⟩ : ∃ J, J = 2 * k := ⟨_, rfl⟩
            obtain ⟨C2, hC2⟩ : ∃ C2, C2 = 2 * c := ⟨_, rfl⟩
            rw [← hJe] at d0 d1 hJ ⊢
            rw [← hC2] at hJ ⊢
            have hJ2 : (J : Int) < (C2 : Int) := by omega
            have hJ3 : J < C2 := by omega
            have hC64 : C2 ≤ 64 := by omega
            have w1' : IntKind.i64.wrap ((J : Int) + 1) = (J : Int) + 1 := by rw [IntKind.wrap_i64]; omega
            have w2' : ((J : Int) + 1).toNat = J + 1 := by omega
            have w3' : 0 ≤ (J : Int) + 1 := by omega
            have kd : Kept w2 wr.drew := kr.drew
            have HOM := Lib.hid hom
            have Htk := Lib.hid htk
            have Hnext := Lib.hid hnext
            have HJ := Lib.hid hJe
            have HC2 := Lib.hid hC2
            clear hom htk hnext hJe hC2 hd0 hd1 hc e0 e1 em hmk hv
            go_wp2
            go_region_law (refine step_mark (HOM.out.kept (Kept.drew (Kept.refl wr))) k Htk.out (by omega) kd.size ⟨Ev.clip x, Ev.clip y⟩ rfl (.tmp 47) (.tmp 58) rfl (by simp [Act.eval]) (by simp [Act.eval]) ?_; intro g' cap'' w3 o3 b3)
            all_goals
              have O3 := Lib.hid o3
              have k3 : Kept w2 w3 := Below.trans kd b3
              clear o3 b3 w1' w2' w3'
              go_wp2
              go_roundw
              case rel =>
                (first
                  | exact ⟨k + 1, by omega, by rw [show ((2 * (k + 1) : Nat) : Int) = (J : Int) + 2 by have := HJ.out; omega], by rw [Hnext.out]; exact O3.out, k3⟩
                  | (repeat apply Exists.intro
                     refine ⟨?_, rfl⟩
                     exact ⟨k + 1, by omega, by rw [show ((2 * (k + 1) : Nat) : Int) = (J : Int) + 2 by have := HJ.out; omega], by rw [Hnext.out]; exact O3.out, k3⟩))
              case measure =>
                have := HJ.out
                have := HC2.out
                simp [intOf]
                omega
          · obtain rfl : k = c := by omega
            have htk : ms.take k = ms := List.take_of_length_le (by rw [I2.out]; exact Nat.le_refl _)
            rw [htk] at hom
            obtain ⟨av', cap', rfl, hmks⟩ := hom.mks Hfit.out
            have hml := I2.out
            rw [hml]
            have cs := rsorted_any av' cap' ms wr hmks
            rw [hml] at cs
            have CS := Lib.hid cs
            have MK := Lib.hid hmks
            have KR := Lib.hid (K2.out.trans kr)
            have ML := Lib.hid hml
            clear cs hmks kr hml hom htk
            go_wp2_with fail
            refine CS.out.mono ?_
            rintro r w11 ⟨rfl, k11⟩
            have K11 := Lib.hid (KR.out.trans k11)
            have MK11 := Lib.hid (MK.out.kept k11)
            by_cases hso : Ev.sorted ms = true
            · have HC : Hid (Ev.mcut s.data.toList a = (ms, p.toNat, 0)) := by show _ = _; rw [Hcut2.out, if_neg (by simp), if_pos hso]
              rw [hso]
              clear k11 hso
              go_wp2
              go_ret3
              refine ⟨av', cap', ?_, ?_, K11.out⟩
              · rw [HC.out, ML.out]
                show Ending.returned (.tuple #[.slice av' k cap', .int .i64 p, .int .i64 0]) = .returned (.tuple #[.slice av' k cap', .int .i64 ((p.toNat : Nat) : Int), .int .i64 0])
                rw [Int.toNat_of_nonneg hpos]
              · rw [HC.out]; exact MK11.out
            · have HC : Hid (Ev.mcut s.data.toList a = ([], 0, 4)) := by show _ = _; rw [Hcut2.out, if_neg (by simp), if_neg hso]
              rw [Bool.not_eq_true] at hso
              rw [hso]
              clear k11 hso
              go_wp2
              go_ret3
              exact cutRes_nil HC.out K11.out
      · rw [if_neg he] at hres
        obtain ⟨rfl, k2⟩ := hres
        have he2 : ((e : Int) == 0) = false := by simp only [beq_eq_false_iff_ne]; omega
        have he3 : ((e : Int) != 0) = true := by simp [bne, he2]
        have HC : Hid (Ev.mcut s.data.toList a = ([], 0, e)) := by show _ = _; rw [Hcut2.out, if_pos he]
        have K2 := Lib.hid (K1.out.trans k2)
        clear k2
        go_wp2
        go_ret3
        exact cutRes_nil HC.out K2.out
  · have he2 : ((er : Int) == 0) = false := by simp only [beq_eq_false_iff_ne]; omega
    have he3 : ((er : Int) != 0) = true := by simp [bne, he2]
    have HC : Hid (Ev.mcut s.data.toList a = ([], 0, er)) := by show _ = _; rw [Hcut.out, if_pos he]
    go_wp2
    go_ret3
    exact cutRes_nil HC.out K1.out
end Go.Proofs.YtbenjenifklejaaDoor
