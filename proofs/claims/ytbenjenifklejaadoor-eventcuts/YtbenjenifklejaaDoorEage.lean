/-
  The walks of Same and Age.
-/
import Derived.Test.YtbenjenifklejaaDoorEgetw
import Derived.Test.YtbenjenifklejaaDoorRquiet
namespace Go.Proofs.YtbenjenifklejaaDoor
open Go.ChangeShapes Go.WideShapes Go.ChangeAt Go.RowKit

theorem str_ne {a b : ByteArray} (h : a ≠ b) : (a.toList == b.toList) = false := by
  rw [beq_eq_false_iff_ne]
  intro e
  apply h
  apply ByteArray.ext
  apply Array.toList_inj.1
  rw [← toList_eq, ← toList_eq, e]

set_option maxHeartbeats 400000 in
set_option maxRecDepth 100000 in
theorem same_ev (a b : Ev.E) (w : World) : Calls Tryd.prog 19 #[evv a, evv b] w fun r w' => r = .returned (.bool (Ev.same a b)) ∧ Kept w w' := by
  obtain ⟨ao, as_, at_, al, ad⟩ := a
  obtain ⟨bo, bs, bt, bl, bd⟩ := b
  unfold evv
  simp only
  have kk : ∀ o p : Obj, Kept w ((w.alloc o).alloc p) := fun o p => Kept.alloc (Kept.alloc (Kept.refl w) _) _
  have KK := Lib.hid kk
  clear kk
  by_cases h1 : ao = bo
  · subst h1
    by_cases h2 : as_ = bs
    · subst h2
      by_cases h3 : at_ = bt
      · subst h3
        by_cases h4 : al = bl
        · subst h4
          go_enter Tryd.func19, Tryd.ntmps19
          go_wp2
          go_ret
          exact ⟨by simp [Ev.same], KK.out _ _⟩
        · have e4 := str_ne h4
          have H4 := Lib.hid h4
          clear h4
          go_enter Tryd.func19, Tryd.ntmps19
          go_wp2
          go_ret
          exact ⟨by simp [Ev.same, H4.out], KK.out _ _⟩
      · have e3 := str_ne h3
        have H3 := Lib.hid h3
        clear h3
        go_enter Tryd.func19, Tryd.ntmps19
        go_wp2
        go_ret
        exact ⟨by simp [Ev.same, H3.out], KK.out _ _⟩
    · have e2 : (as_ == bs) = false := by simpa using h2
      have H2 := Lib.hid h2
      clear h2
      go_enter Tryd.func19, Tryd.ntmps19
      go_wp2
      go_ret
      exact ⟨by simp [Ev.same, H2.out], KK.out _ _⟩
  · have e1 : (ao == bo) = false := by simpa using h1
    have H1 := Lib.hid h1
    clear h1
    go_enter Tryd.func19, Tryd.ntmps19
    go_wp2
    go_ret
    exact ⟨by simp [Ev.same, H1.out], KK.out _ _⟩

theorem set_same {w : World} {g i : Nat} {v : Value} (h : w.cell? ⟨g, i, none⟩ = some v) : w.setCell ⟨g, i, none⟩ v = w := by
  unfold World.setCell
  have e : w.heap.modify g (fun
      | .cells c elem frozen => .cells (if (none : Option Nat).isSome then c else c.setIfInBounds i v) elem frozen
      | o => o) = w.heap := by
    apply Array.ext
    · simp
    · intro k h1 h2
      rw [Array.getElem_modify]
      by_cases hk : g = k
      · subst hk
        rw [if_pos rfl]
        unfold World.cell? at h
        rw [Array.getElem?_eq_getElem h2] at h
        cases ho : w.heap[g] with
        | cells c el fr =>
          rw [ho] at h
          simp only [Option.isSome_none, Bool.false_eq_true, if_false] at h ⊢
          congr 1
          apply Array.ext_getElem?
          intro j
          rw [Array.getElem?_setIfInBounds]
          by_cases hj : i = j
          · subst hj
            have := (Array.getElem?_eq_some_iff.1 h).1
            rw [if_pos rfl, if_pos this, h]
          · rw [if_neg hj]
        | _ => rfl
      · rw [if_neg hk]
  exact congrArg (fun x => { w with heap := x }) e
theorem ret_age (R : Nat) (tmps : Array Value) (W : World) (E : Ev.E) (h4 : tmps[4]?.getD undef = .pointer (some ⟨R, 0, none⟩)) (hb : Blk W R (evc E) 23) :
    (results Tryd.f17 tmps).run Tryd.prog W = .ok (evv E) W := by
  unfold evc at hb
  have c0 := hb.cell 0
  have c1 := hb.cell 1
  have c2 := hb.cell 2
  have c3 := hb.cell 3
  have c4 := hb.cell 4
  simp only [List.getElem?_toArray, List.getElem?_cons_zero, List.getElem?_cons_succ] at c0 c1 c2 c3 c4
  simp [results, Tryd.f17, go_sem, h4, c0, c1, c2, c3, c4, evv]

set_option maxHeartbeats 1000000 in
set_option maxRecDepth 100000 in
theorem age_any (e : Ev.E) (n : Int) (w : World) (hf : Fit e) (h1 : -9223372036854775808 ≤ n) (h2 : n ≤ 9223372036854775807) :
    Calls Tryd.prog 17 #[evv e, .int .i64 n] w fun r w' => r = .returned (evv (Ev.age e n)) ∧ Kept w w' := by
  obtain ⟨o0, o1, s0, s1, ht, hl, d0, d1⟩ := hf
  unfold evv
  go_enter Tryd.func17, Tryd.ntmps17
  go_wp2_with fail
  have b0 := (Blk.made w (evc e) 23).alloc (.cells #[.int .i64 0, .int .i64 0, .string ⟨#[]⟩, .string ⟨#[]⟩, .int .i64 0] 23)
  have b1 := Blk.made (w.alloc (.cells (evc e) 23)) #[.int .i64 0, .int .i64 0, .string ⟨#[]⟩, .string ⟨#[]⟩, .int .i64 0] 23
  rw [World.size_alloc] at b1
  have k2 : Kept w ((w.alloc (.cells (evc e) 23)).alloc (.cells #[.int .i64 0, .int .i64 0, .string ⟨#[]⟩, .string ⟨#[]⟩, .int .i64 0] 23)) := Kept.alloc (Kept.alloc (Kept.refl w) _) _
  unfold evc at b0 b1 k2
  obtain ⟨w2, hw2⟩ : ∃ w2, w2 = (w.alloc (.cells #[.int .i64 e.o, .int .i64 e.s, .string e.t, .string e.l, .int .i64 e.d] 23)).alloc (.cells #[.int .i64 0, .int .i64 0, .string ⟨#[]⟩, .string ⟨#[]⟩, .int .i64 0] 23) := ⟨_, rfl⟩
  rw [← hw2] at b0 b1 k2 ⊢
  clear hw2
  have c2 := b0.cell 2
  have c3 := b0.cell 3
  simp only [List.getElem?_toArray, List.getElem?_cons_zero, List.getElem?_cons_succ] at c2 c3
  have s2 := KW.cell c2
  have s3 := KW.cell c3
  have y2 : ∀ p : KW w2, p.v.frozen? ⟨w.heap.size, 2, none⟩ = false := fun p => (b0.kept p.h).frozen 2
  have y3 : ∀ p : KW w2, p.v.frozen? ⟨w.heap.size, 3, none⟩ = false := fun p => (b0.kept p.h).frozen 3
  have z2 : ∀ p : KW w2, p.v.setCell ⟨w.heap.size, 2, none⟩ (.string e.t) = p.v := fun p => set_same (s2 p)
  have z3 : ∀ p : KW w2, p.v.setCell ⟨w.heap.size, 3, none⟩ (.string e.l) = p.v := fun p => set_same (s3 p)
  have ca : ∀ (s : ByteArray) (p : KW w2), s.size ≤ 281474976710656 → Calls Tryd.prog 43 #[.string s] p.v fun r w' => r = .returned (.string s) ∧ Kept p.v w' := fun s p hs => clone_any s p.v hs
  have CA := Lib.hid ca
  have B0 := Lib.hid b0
  have B1 := Lib.hid b1
  have K2 := Lib.hid k2
  clear ca b0 b1 k2 c2 c3
  have nn : Nonempty (KW w2) := ⟨⟨w2, Kept.refl w2⟩⟩
  refine wp_region_kept (by kernel_rfl) (by kernel_rfl) ?_
  repeat (go_big_quiet_step ((go_at_call 43; exact KW.calls _ (CA.out _ _ (by omega)))))
  refine wpQuiet_nil ?_
  intro w6 hw6
  have kk6 : Kept w2 w6 := by
    obtain ⟨p, rfl⟩ := hw6
    exact p.h
  have b0 := B0.out.kept kk6
  have b1 := B1.out.kept kk6
  have K6 := Lib.hid (K2.out.trans kk6)
  clear hw6 nn s2 s3 y2 y3 z2 z3 kk6 CA B0 B1 K2
  have r0 := b1.cell 0
  have r1 := b1.cell 1
  have r2 := b1.cell 2
  have r3 := b1.cell 3
  have r4 := b1.cell 4
  have f0 := b1.frozen 0
  have f1 := b1.frozen 1
  have f2 := b1.frozen 2
  have f3 := b1.frozen 3
  have f4 := b1.frozen 4
  have g4 := b0.frozen 4
  have c0 := b0.cell 0
  have c1 := b0.cell 1
  have c2 := b0.cell 2
  have c3 := b0.cell 3
  have c4 := b0.cell 4
  simp only [List.getElem?_toArray, List.getElem?_cons_zero, List.getElem?_cons_succ] at c0 c1 c2 c3 c4 r0 r1 r2 r3 r4
  have B0 := Lib.hid b0
  have B1 := Lib.hid b1
  clear b0 b1
  by_cases hn : n ≤ 0
  · have HA : Hid (Ev.age e n = e) := by show _ = _; rw [Ev.age, if_pos hn]
    go_wp2
    refine bodyPost_ret (ret_age (w.heap.size + 1) _ _ e rfl (set_ev _ _ .zero e B1.out)) rfl ⟨?_, set_kept _ _ _ _ _ _ _ _ K6.out (by omega)⟩
    rw [HA.out]; rfl
  · by_cases hd : e.d ≤ n
    · have HA : Hid (Ev.age e n = { e with d := 0 }) := by show _ = _; rw [Ev.age, if_neg hn, if_pos hd]
      go_wp2
      refine bodyPost_ret (ret_age (w.heap.size + 1) _ _ { e with d := 0 } rfl (set_ev _ _ .zero { e with d := 0 } (B1.out.far ⟨w.heap.size, 4, none⟩ _ (by simp)))) rfl ⟨?_, set_kept _ _ _ _ _ _ _ _ (Below.setCell K6.out (p := ⟨w.heap.size, 4, none⟩) (Nat.le_refl _) _) (by omega)⟩
      rw [HA.out]; rfl
    · have HA : Hid (Ev.age e n = { e with d := e.d - n }) := by show _ = _; rw [Ev.age, if_neg hn, if_neg hd]
      go_wp2
      refine bodyPost_ret (ret_age (w.heap.size + 1) _ _ { e with d := e.d - n } rfl (set_ev _ _ .zero { e with d := e.d - n } (B1.out.far ⟨w.heap.size, 4, none⟩ _ (by simp)))) rfl ⟨?_, set_kept _ _ _ _ _ _ _ _ (Below.setCell K6.out (p := ⟨w.heap.size, 4, none⟩) (Nat.le_refl _) _) (by omega)⟩
      rw [HA.out]; rfl
end Go.Proofs.YtbenjenifklejaaDoor
