/-
  The parts of a frame, one like the other: what each method does behind the interface.
-/
import Derived.Test.YtlfmpoinjbmjoaaGreatDoorFnum
import Derived.Test.YtlfmpoinjbmjoaaGreatDoorEcutw
import Derived.Test.YtlfmpoinjbmjoaaGreatDoorTfilter
namespace Go.Proofs.YtlfmpoinjbmjoaaGreatDoor
open Go.ChangeShapes Go.WideShapes Go.ChangeAt Go.RowKit
theorem set_alloc_but (w : World) (g i : Nat) (v : Value) (o : Obj) : But (fun j => j = g) w ((w.setCell ⟨g, i, none⟩ v).alloc o) := (but_set w g i v).trans (Kept.but (S := fun j => j = g) ((Kept.refl _).alloc o)) (fun _ _ h => h)
theorem kept_set_but {w w1 : World} (k : Kept w w1) (g i : Nat) (v : Value) : But (fun j => j = g) w (w1.setCell ⟨g, i, none⟩ v) := (Kept.but (S := fun j => j = g) k).trans (but_set w1 g i v) (fun _ _ h => h)
/-- marks stay while a cell of another block turns -/
theorem mks_set {w : World} {av : Option Addr} {cap : Nat} {ms : List Ev.M} {g : Nat} (h : MkS w av cap ms) (hg : ms = [] ∨ ∀ x, av = some x → x.block ≠ g) (i : Nat) (v : Value) : MkS (w.setCell ⟨g, i, none⟩ v) av cap ms := by
  refine ⟨h.cap1, h.cap2, h.fit, ?_⟩
  rcases h.at_ with h0 | ⟨b, off, rfl, h2, h3⟩
  · exact .inl h0
  · rcases hg with h0 | hg
    · exact .inl h0
    have hne : b ≠ g := hg _ rfl
    refine .inr ⟨b, off, rfl, by rw [size_set]; exact h2, fun j m hm => ?_⟩
    have hB := Below.heap_setCell w ⟨g, i, none⟩ v b hne
    exact ⟨(World.cell?_of_block (a := ⟨b, off + j * 2, none⟩) hB).trans (h3 j m hm).1, (World.cell?_of_block (a := ⟨b, off + j * 2 + 1, none⟩) hB).trans (h3 j m hm).2⟩

set_option maxHeartbeats 400000 in
theorem ms_right (f : Fr.F) (av : Option Addr) (cap : Nat) (g : Nat) (w : World) (hb : Blk w g (frc f av cap) 26) (hm : MkS w av cap f.ms) :
    Calls Tryz.prog 126 #[.agg #[], .pointer (some ⟨g, 0, none⟩)] w fun r w' => r = .returned (.bool (Ev.sorted f.ms)) ∧ Kept w w' := by
  have hlt := hb.lt
  have c11 : w.cell? ⟨g, 11, none⟩ = some (.slice av f.ms.length cap) := cell_of hb 11 rfl
  have CS : Hid (Calls Tryz.prog 130 #[.slice av f.ms.length cap] (w.alloc (.cells #[] 96)) fun r w' => r = .returned (.bool (Ev.sorted f.ms)) ∧ Kept (w.alloc (.cells #[] 96)) w') := sorted_any av cap f.ms _ (hm.kept ((Kept.refl w).alloc _))
  clear hm
  obtain ⟨n, hn⟩ : ∃ n, n = f.ms.length := ⟨_, rfl⟩
  rw [← hn] at c11 CS
  clear hn
  clear hb
  go_enter Tryz.func126, Tryz.ntmps126
  go_wp2_with fail
  refine CS.out.mono ?_
  rintro r w1 ⟨rfl, k1⟩
  go_wp2
  go_ret
  exact ⟨rfl, ((Kept.refl w).alloc _).trans k1⟩

set_option maxHeartbeats 400000 in
theorem ms_put (f : Fr.F) (av : Option Addr) (cap : Nat) (g : Nat) (w : World) (hb : Blk w g (frc f av cap) 26) (hm : MkS w av cap f.ms) (hT : Tab w) :
    Calls Tryz.prog 125 #[.agg #[], .pointer (some ⟨g, 0, none⟩)] w fun r w' => r = .returned (str (Ev.mput f.ms)) ∧ Kept w w' := by
  have hlt := hb.lt
  have c11 : w.cell? ⟨g, 11, none⟩ = some (.slice av f.ms.length cap) := cell_of hb 11 rfl
  have CS : Hid (Calls Tryz.prog 129 #[.slice av f.ms.length cap] (w.alloc (.cells #[] 96)) fun r w' => r = .returned (str (Ev.mput f.ms)) ∧ Kept (w.alloc (.cells #[] 96)) w') := marks_any av cap f.ms _ (hm.kept ((Kept.refl w).alloc _)) (hT.kept ((Kept.refl w).alloc _))
  clear hm hT
  obtain ⟨n, hn⟩ : ∃ n, n = f.ms.length := ⟨_, rfl⟩
  rw [← hn] at c11 CS
  clear hn
  obtain ⟨A, hA, _, _⟩ := name_row (Ev.mput f.ms)
  rw [hA] at CS ⊢
  clear hA
  clear hb
  go_enter Tryz.func125, Tryz.ntmps125
  go_wp2_with fail
  refine CS.out.mono ?_
  rintro r w1 ⟨rfl, k1⟩
  go_wp2
  go_ret
  exact ⟨rfl, ((Kept.refl w).alloc _).trans k1⟩

set_option maxHeartbeats 400000 in
theorem ev_right (f : Fr.F) (av : Option Addr) (cap : Nat) (g : Nat) (w : World) (hb : Blk w g (frc f av cap) 26) (hf : Fit f.e) :
    Calls Tryz.prog 139 #[.agg #[], .pointer (some ⟨g, 0, none⟩)] w fun r w' => r = .returned (.bool (Ev.right f.e)) ∧ Kept w w' := by
  have hlt := hb.lt
  have c6 : w.cell? ⟨g, 6, none⟩ = some (.int .i64 f.e.o) := cell_of hb 6 rfl
  have c7 : w.cell? ⟨g, 7, none⟩ = some (.int .i64 f.e.s) := cell_of hb 7 rfl
  have c8 : w.cell? ⟨g, 8, none⟩ = some (.string f.e.t) := cell_of hb 8 rfl
  have c9 : w.cell? ⟨g, 9, none⟩ = some (.string f.e.l) := cell_of hb 9 rfl
  have c10 : w.cell? ⟨g, 10, none⟩ = some (.int .i64 f.e.d) := cell_of hb 10 rfl
  have CS : Hid (Calls Tryz.prog 143 #[evv f.e] (w.alloc (.cells #[] 97)) fun r w' => r = .returned (.bool (Ev.right f.e)) ∧ Kept (w.alloc (.cells #[] 97)) w') := evright_any f.e _ hf
  unfold evv at CS
  clear hf
  clear hb
  go_enter Tryz.func139, Tryz.ntmps139
  go_wp2_with fail
  refine CS.out.mono ?_
  rintro r w1 ⟨rfl, k1⟩
  go_wp2
  go_ret
  exact ⟨rfl, ((Kept.refl w).alloc _).trans k1⟩

set_option maxHeartbeats 400000 in
theorem ev_put (f : Fr.F) (av : Option Addr) (cap : Nat) (g : Nat) (w : World) (hb : Blk w g (frc f av cap) 26) (hf : Fit f.e) (ht : f.e.t.size ≤ 65536) (hT : Tab w) :
    Calls Tryz.prog 138 #[.agg #[], .pointer (some ⟨g, 0, none⟩)] w fun r w' => r = .returned (str (Ev.put f.e)) ∧ Kept w w' := by
  have hlt := hb.lt
  have c6 : w.cell? ⟨g, 6, none⟩ = some (.int .i64 f.e.o) := cell_of hb 6 rfl
  have c7 : w.cell? ⟨g, 7, none⟩ = some (.int .i64 f.e.s) := cell_of hb 7 rfl
  have c8 : w.cell? ⟨g, 8, none⟩ = some (.string f.e.t) := cell_of hb 8 rfl
  have c9 : w.cell? ⟨g, 9, none⟩ = some (.string f.e.l) := cell_of hb 9 rfl
  have c10 : w.cell? ⟨g, 10, none⟩ = some (.int .i64 f.e.d) := cell_of hb 10 rfl
  have CS : Hid (Calls Tryz.prog 142 #[evv f.e] (w.alloc (.cells #[] 97)) fun r w' => r = .returned (str (Ev.put f.e)) ∧ Kept (w.alloc (.cells #[] 97)) w') := evput_any f.e _ hf (by omega) (hT.kept ((Kept.refl w).alloc _))
  unfold evv at CS
  clear hf hT
  obtain ⟨A, hA, _, _⟩ := name_row (Ev.put f.e)
  rw [hA] at CS ⊢
  clear hA
  clear hb
  go_enter Tryz.func138, Tryz.ntmps138
  go_wp2_with fail
  refine CS.out.mono ?_
  rintro r w1 ⟨rfl, k1⟩
  go_wp2
  go_ret
  exact ⟨rfl, ((Kept.refl w).alloc _).trans k1⟩

set_option maxHeartbeats 400000 in
theorem fl_right (f : Fr.F) (av : Option Addr) (cap : Nat) (g : Nat) (w : World) (hb : Blk w g (frc f av cap) 26) (ht : f.fl.size ≤ 65536) :
    Calls Tryz.prog 170 #[.agg #[], .pointer (some ⟨g, 0, none⟩)] w fun r w' => r = .returned (.bool (Tp.filter f.fl.data.toList)) ∧ Kept w w' := by
  have hlt := hb.lt
  have c5 : w.cell? ⟨g, 5, none⟩ = some (.string f.fl) := cell_of hb 5 rfl
  have CS : Hid (Calls Tryz.prog 172 #[.string f.fl] (w.alloc (.cells #[] 99)) fun r w' => r = .returned (.bool (Tp.filter f.fl.data.toList)) ∧ Kept (w.alloc (.cells #[] 99)) w') := (filter_any f.fl _ (by omega)).mono fun _ _ h => h
  clear hb
  go_enter Tryz.func170, Tryz.ntmps170
  go_wp2_with fail
  refine CS.out.mono ?_
  rintro r w1 ⟨rfl, k1⟩
  go_wp2
  go_ret
  exact ⟨rfl, ((Kept.refl w).alloc _).trans k1⟩

set_option maxHeartbeats 400000 in
theorem fl_put (f : Fr.F) (av : Option Addr) (cap : Nat) (g : Nat) (w : World) (hb : Blk w g (frc f av cap) 26) (ht : f.fl.size ≤ 65536) (hT : Tab w) :
    Calls Tryz.prog 169 #[.agg #[], .pointer (some ⟨g, 0, none⟩)] w fun r w' => r = .returned (str (Vn.vput f.fl.data.toList.length ++ f.fl.data.toList)) ∧ Kept w w' := by
  have hlt := hb.lt
  have c5 : w.cell? ⟨g, 5, none⟩ = some (.string f.fl) := cell_of hb 5 rfl
  have CS : Hid (Calls Tryz.prog 54 #[.string f.fl] (w.alloc (.cells #[] 99)) fun r w' => r = .returned (str (Vn.vput f.fl.data.toList.length ++ f.fl.data.toList)) ∧ Kept (w.alloc (.cells #[] 99)) w') := text_any f.fl _ (by omega) (hT.kept ((Kept.refl w).alloc _))
  clear hT
  obtain ⟨A, hA, _, _⟩ := name_row (Vn.vput f.fl.data.toList.length ++ f.fl.data.toList)
  rw [hA] at CS ⊢
  clear hA
  clear hb
  go_enter Tryz.func169, Tryz.ntmps169
  go_wp2_with fail
  refine CS.out.mono ?_
  rintro r w1 ⟨rfl, k1⟩
  go_wp2
  go_ret
  exact ⟨rfl, ((Kept.refl w).alloc _).trans k1⟩

set_option maxHeartbeats 400000 in
theorem ms_drop (f : Fr.F) (av : Option Addr) (cap : Nat) (g : Nat) (w : World) (hb : Blk w g (frc f av cap) 26) :
    Calls Tryz.prog 123 #[.agg #[], .pointer (some ⟨g, 0, none⟩)] w fun r w' => r = .returned (.tuple #[]) ∧ Blk w' g (frc { f with ms := [] } none 0) 26 ∧ But (fun i => i = g) w w' := by
  have hlt := hb.lt
  have c11 : w.cell? ⟨g, 11, none⟩ = some (.slice av f.ms.length cap) := cell_of hb 11 rfl
  have f11 := hb.frozen 11
  have HB : Hid (Blk ((w.setCell ⟨g, 11, none⟩ (.slice none 0 0)).alloc (.cells #[] 96)) g (frc { f with ms := [] } none 0) 26) := (hb.set 11 (.slice none 0 0)).alloc _
  clear hb
  go_enter Tryz.func123, Tryz.ntmps123
  go_wp2
  go_end0
  exact ⟨rfl, HB.out, set_alloc_but _ _ _ _ _⟩

set_option maxHeartbeats 400000 in
theorem on_drop (f : Fr.F) (av : Option Addr) (cap : Nat) (g : Nat) (w : World) (hb : Blk w g (frc f av cap) 26) :
    Calls Tryz.prog 162 #[.agg #[], .pointer (some ⟨g, 0, none⟩)] w fun r w' => r = .returned (.tuple #[]) ∧ Blk w' g (frc { f with on := false } av cap) 26 ∧ But (fun i => i = g) w w' := by
  have hlt := hb.lt
  have c4 : w.cell? ⟨g, 4, none⟩ = some (.bool f.on) := cell_of hb 4 rfl
  have f4 := hb.frozen 4
  have HB : Hid (Blk ((w.setCell ⟨g, 4, none⟩ (.bool false)).alloc (.cells #[] 98)) g (frc { f with on := false } av cap) 26) := (hb.set 4 (.bool false)).alloc _
  clear hb
  go_enter Tryz.func162, Tryz.ntmps162
  go_wp2
  go_end0
  exact ⟨rfl, HB.out, set_alloc_but _ _ _ _ _⟩

set_option maxHeartbeats 400000 in
theorem fl_drop (f : Fr.F) (av : Option Addr) (cap : Nat) (g : Nat) (w : World) (hb : Blk w g (frc f av cap) 26) :
    Calls Tryz.prog 167 #[.agg #[], .pointer (some ⟨g, 0, none⟩)] w fun r w' => r = .returned (.tuple #[]) ∧ Blk w' g (frc { f with fl := ⟨#[]⟩ } av cap) 26 ∧ But (fun i => i = g) w w' := by
  have hlt := hb.lt
  have c5 : w.cell? ⟨g, 5, none⟩ = some (.string f.fl) := cell_of hb 5 rfl
  have f5 := hb.frozen 5
  have HB : Hid (Blk ((w.setCell ⟨g, 5, none⟩ (.string ⟨#[]⟩)).alloc (.cells #[] 99)) g (frc { f with fl := ⟨#[]⟩ } av cap) 26) := (hb.set 5 (.string ⟨#[]⟩)).alloc _
  clear hb
  go_enter Tryz.func167, Tryz.ntmps167
  go_wp2
  go_end0
  exact ⟨rfl, HB.out, set_alloc_but _ _ _ _ _⟩

theorem ev_sets {w : World} {f : Fr.F} {av : Option Addr} {cap g : Nat} (hb : Blk w g (frc f av cap) 26) (d : Ev.E) : Blk (((((w.setCell ⟨g, 6, none⟩ (.int .i64 d.o)).setCell ⟨g, 7, none⟩ (.int .i64 d.s)).setCell ⟨g, 8, none⟩ (.string d.t)).setCell ⟨g, 9, none⟩ (.string d.l)).setCell ⟨g, 10, none⟩ (.int .i64 d.d)) g (frc { f with e := d } av cap) 26 :=
  ((((hb.set 6 (.int .i64 d.o)).set 7 (.int .i64 d.s)).set 8 (.string d.t)).set 9 (.string d.l)).set 10 (.int .i64 d.d)
theorem ev_sets_but (w : World) (g : Nat) (v0 v1 v2 v3 v4 : Value) : But (fun i => i = g) w (((((w.setCell ⟨g, 6, none⟩ (v0)).setCell ⟨g, 7, none⟩ (v1)).setCell ⟨g, 8, none⟩ (v2)).setCell ⟨g, 9, none⟩ (v3)).setCell ⟨g, 10, none⟩ (v4)) :=
  ((((but_set w g 6 v0).trans (but_set _ g 7 v1) (fun _ _ h => h)).trans (but_set _ g 8 v2) (fun _ _ h => h)).trans (but_set _ g 9 v3) (fun _ _ h => h)).trans (but_set _ g 10 v4) (fun _ _ h => h)
set_option maxHeartbeats 400000 in
theorem ev_drop (f : Fr.F) (av : Option Addr) (cap : Nat) (g : Nat) (w : World) (hb : Blk w g (frc f av cap) 26) :
    Calls Tryz.prog 136 #[.agg #[], .pointer (some ⟨g, 0, none⟩)] w fun r w' => r = .returned (.tuple #[]) ∧ Blk w' g (frc { f with e := .zero } av cap) 26 ∧ But (fun i => i = g) w w' := by
  have hlt := hb.lt
  have c6 : w.cell? ⟨g, 6, none⟩ = some (.int .i64 f.e.o) := cell_of hb 6 rfl
  have f6 := hb.frozen 6
  have c7 : w.cell? ⟨g, 7, none⟩ = some (.int .i64 f.e.s) := cell_of hb 7 rfl
  have f7 := hb.frozen 7
  have c8 : w.cell? ⟨g, 8, none⟩ = some (.string f.e.t) := cell_of hb 8 rfl
  have f8 := hb.frozen 8
  have c9 : w.cell? ⟨g, 9, none⟩ = some (.string f.e.l) := cell_of hb 9 rfl
  have f9 := hb.frozen 9
  have c10 : w.cell? ⟨g, 10, none⟩ = some (.int .i64 f.e.d) := cell_of hb 10 rfl
  have f10 := hb.frozen 10
  have HB := Lib.hid ((ev_sets hb .zero).alloc (.cells #[] 97))
  clear hb
  go_enter Tryz.func136, Tryz.ntmps136
  go_wp2
  go_end0
  exact ⟨rfl, HB.out, (ev_sets_but w g _ _ _ _ _).trans (Kept.but (S := fun j => j = g) ((Kept.refl _).alloc _)) (fun _ _ h => h)⟩

set_option maxHeartbeats 400000 in
theorem ms_get (s : ByteArray) (a : Nat) (f : Fr.F) (av : Option Addr) (cap : Nat) (g : Nat) (w : World) (hb : Blk w g (frc f av cap) 26) (hs : s.size ≤ 65536) (ha : a ≤ 65536) (hT : Tab w) :
    Calls Tryz.prog 124 #[.agg #[], .pointer (some ⟨g, 0, none⟩), .string s, .int .i64 a] w fun r w' => r = .returned (.tuple #[.int .i64 (Ev.mcut s.data.toList a).2.1, .int .i64 (Ev.mcut s.data.toList a).2.2]) ∧ (∃ av' cap', Blk w' g (frc { f with ms := (Ev.mcut s.data.toList a).1 } av' cap') 26 ∧ MkS w' av' cap' (Ev.mcut s.data.toList a).1 ∧ ((Ev.mcut s.data.toList a).1 = [] ∨ ∀ x, av' = some x → w.heap.size ≤ x.block)) ∧ But (fun i => i = g) w w' := by
  have hlt := hb.lt
  have kx : Kept w (w.alloc (.cells #[] 96)) := (Kept.refl w).alloc _
  have HB := Lib.hid (hb.kept kx)
  have CS := Lib.hid (evcut_new s a (w.alloc (.cells #[] 96)) (by omega) (by omega) (by omega) (hT.kept kx))
  have KX := Lib.hid kx
  obtain ⟨X, hX⟩ : ∃ X, X = Ev.mcut s.data.toList a := ⟨_, rfl⟩
  rw [← hX] at CS ⊢
  clear hT kx hb hX
  go_enter Tryz.func124, Tryz.ntmps124
  go_wp2_with fail
  refine CS.out.mono ?_
  rintro r w1 ⟨av', cap', rfl, h1, k1, h2⟩
  obtain ⟨M, t, er⟩ := X
  simp only at h1 h2 ⊢
  have b2 := HB.out.kept k1
  have c2 : w1.cell? ⟨g, 11, none⟩ = some (.slice av f.ms.length cap) := cell_of b2 11 rfl
  have f2 := b2.frozen 11
  have hn : ∀ x, (M = [] ∨ ∀ a, av' = some a → x ≤ a.block) → x = x := fun _ _ => rfl
  have h2' : M = [] ∨ ∀ x, av' = some x → w.heap.size + 1 ≤ x.block := h2.imp id fun h x hx => by have := h x hx; rw [World.size_alloc] at this; exact this
  have H3 : Hid (MkS (w1.setCell ⟨g, 11, none⟩ (.slice av' M.length cap')) av' cap' M) := mks_set h1 (h2'.imp id fun h x hx => by have := h x hx; omega) _ _
  have H2 : Hid (M = [] ∨ ∀ x, av' = some x → w.heap.size ≤ x.block) := h2'.imp id fun h x hx => by have := h x hx; omega
  have B2 : Hid (Blk (w1.setCell ⟨g, 11, none⟩ (.slice av' M.length cap')) g (frc { f with ms := M } av' cap') 26) := b2.set 11 _
  have K1 := Lib.hid (KX.out.trans k1)
  clear k1 h1 h2 h2' hn CS b2
  obtain ⟨n, hn⟩ : ∃ n, n = M.length := ⟨_, rfl⟩
  rw [← hn] at B2 H3 ⊢
  clear hn
  go_wp2
  go_ret2
  exact ⟨rfl, ⟨av', cap', B2.out, H3.out, H2.out⟩, kept_set_but K1.out _ _ _⟩

set_option maxHeartbeats 400000 in
theorem ev_get (s : ByteArray) (a : Nat) (f : Fr.F) (av : Option Addr) (cap : Nat) (g : Nat) (w : World) (hb : Blk w g (frc f av cap) 26) (hs : s.size ≤ 65536) (ha : a ≤ 65536) (hT : Tab w) :
    Calls Tryz.prog 137 #[.agg #[], .pointer (some ⟨g, 0, none⟩), .string s, .int .i64 a] w fun r w' => r = .returned (.tuple #[.int .i64 (Ev.get s.data.toList a).2.1, .int .i64 (Ev.get s.data.toList a).2.2]) ∧ Blk w' g (frc { f with e := (Ev.get s.data.toList a).1 } av cap) 26 ∧ But (fun i => i = g) w w' := by
  have hlt := hb.lt
  have kx : Kept w (w.alloc (.cells #[] 97)) := (Kept.refl w).alloc _
  have HB := Lib.hid (hb.kept kx)
  have CS := Lib.hid (evget_any s a (w.alloc (.cells #[] 97)) (by omega) (by omega) (by omega) (hT.kept kx))
  have KX := Lib.hid kx
  obtain ⟨X, hX⟩ : ∃ X, X = Ev.get s.data.toList a := ⟨_, rfl⟩
  rw [← hX] at CS ⊢
  clear hT kx hb hX
  obtain ⟨E, t, er⟩ := X
  unfold tupe evv at CS
  simp only at CS ⊢
  go_enter Tryz.func137, Tryz.ntmps137
  go_wp2_with fail
  refine CS.out.mono ?_
  rintro r w1 ⟨rfl, k1⟩
  have b2 := HB.out.kept k1
  have hlt1 := b2.lt
  have c6 : w1.cell? ⟨g, 6, none⟩ = some (.int .i64 f.e.o) := cell_of b2 6 rfl
  have f6 := b2.frozen 6
  have c7 : w1.cell? ⟨g, 7, none⟩ = some (.int .i64 f.e.s) := cell_of b2 7 rfl
  have f7 := b2.frozen 7
  have c8 : w1.cell? ⟨g, 8, none⟩ = some (.string f.e.t) := cell_of b2 8 rfl
  have f8 := b2.frozen 8
  have c9 : w1.cell? ⟨g, 9, none⟩ = some (.string f.e.l) := cell_of b2 9 rfl
  have f9 := b2.frozen 9
  have c10 : w1.cell? ⟨g, 10, none⟩ = some (.int .i64 f.e.d) := cell_of b2 10 rfl
  have f10 := b2.frozen 10
  have B2 := Lib.hid (ev_sets b2 E)
  have K1 := Lib.hid (KX.out.trans k1)
  clear k1 CS b2
  go_wp2
  go_ret2
  exact ⟨rfl, B2.out.alloc _, ((Kept.but (S := fun j => j = g) K1.out).trans (ev_sets_but w1 g _ _ _ _ _) (fun _ _ h => h)).trans (Kept.but (S := fun j => j = g) ((Kept.refl _).alloc _)) (fun _ _ h => h)⟩

set_option maxHeartbeats 400000 in
theorem fl_get (s : ByteArray) (a : Nat) (f : Fr.F) (av : Option Addr) (cap : Nat) (g : Nat) (w : World) (hb : Blk w g (frc f av cap) 26) (hs : s.size ≤ 65536) (ha : a ≤ 65536) (hT : Tab w) :
    Calls Tryz.prog 168 #[.agg #[], .pointer (some ⟨g, 0, none⟩), .string s, .int .i64 a] w fun r w' => r = .returned (.tuple #[.int .i64 (vcut s.data.toList a).2.1, .int .i64 (vcut s.data.toList a).2.2]) ∧ Blk w' g (frc { f with fl := ⟨(vcut s.data.toList a).1.toArray⟩ } av cap) 26 ∧ But (fun i => i = g) w w' := by
  have hlt := hb.lt
  have kx : Kept w (w.alloc (.cells #[] 99)) := (Kept.refl w).alloc _
  have HB := Lib.hid (hb.kept kx)
  have CS := Lib.hid (cut_any s a (w.alloc (.cells #[] 99)) (by omega) (by omega) (by omega) (hT.kept kx))
  have KX := Lib.hid kx
  obtain ⟨X, hX⟩ : ∃ X, X = vcut s.data.toList a := ⟨_, rfl⟩
  rw [← hX] at CS ⊢
  clear hT kx hb hX
  obtain ⟨x, t, er⟩ := X
  unfold tups str at CS
  simp only at CS ⊢
  obtain ⟨q, hq⟩ : ∃ q : ByteArray, q = ⟨x.toArray⟩ := ⟨_, rfl⟩
  rw [← hq] at CS ⊢
  clear hq
  go_enter Tryz.func168, Tryz.ntmps168
  go_wp2_with fail
  refine CS.out.mono ?_
  rintro r w1 ⟨rfl, k1⟩
  have b2 := HB.out.kept k1
  have c5 : w1.cell? ⟨g, 5, none⟩ = some (.string f.fl) := cell_of b2 5 rfl
  have f5 := b2.frozen 5
  have B2 : Hid (Blk (w1.setCell ⟨g, 5, none⟩ (.string q)) g (frc { f with fl := q } av cap) 26) := b2.set 5 (.string q)
  have K1 := Lib.hid (KX.out.trans k1)
  clear k1 CS b2
  go_wp2
  go_ret2
  exact ⟨rfl, B2.out, kept_set_but K1.out _ _ _⟩

theorem on_right (g : Nat) (w : World) :
    Calls Tryz.prog 165 #[.agg #[], .pointer (some ⟨g, 0, none⟩)] w fun r w' => r = .returned (.bool true) ∧ Kept w w' := by
  go_enter Tryz.func165, Tryz.ntmps165
  go_wp2
  go_ret
  exact ⟨rfl, (Kept.refl w).alloc _⟩
set_option maxHeartbeats 400000 in
theorem on_put (f : Fr.F) (av : Option Addr) (cap : Nat) (g : Nat) (w : World) (hb : Blk w g (frc f av cap) 26) :
    Calls Tryz.prog 164 #[.agg #[], .pointer (some ⟨g, 0, none⟩)] w fun r w' => r = .returned (str (if f.on then [1] else [0])) ∧ Kept w w' := by
  have hlt := hb.lt
  have c4 : w.cell? ⟨g, 4, none⟩ = some (.bool f.on) := cell_of hb 4 rfl
  clear hb
  cases hon : f.on with
  | true =>
    rw [hon] at c4
    go_enter Tryz.func164, Tryz.ntmps164
    go_wp2
    go_ret
    exact ⟨rfl, (Kept.refl w).alloc _⟩
  | false =>
    rw [hon] at c4
    go_enter Tryz.func164, Tryz.ntmps164
    go_wp2
    go_ret
    exact ⟨rfl, (Kept.refl w).alloc _⟩
set_option maxHeartbeats 400000 in
theorem on_get (s : ByteArray) (a : Nat) (f : Fr.F) (av : Option Addr) (cap : Nat) (g : Nat) (w : World) (hb : Blk w g (frc f av cap) 26) (_hs : s.size ≤ 65536) (ha : a ≤ 65536) :
    Calls Tryz.prog 163 #[.agg #[], .pointer (some ⟨g, 0, none⟩), .string s, .int .i64 a] w fun r w' => r = .returned (.tuple #[.int .i64 (Fr.onGet s.data.toList a f).2.1, .int .i64 (Fr.onGet s.data.toList a f).2.2]) ∧ Blk w' g (frc (Fr.onGet s.data.toList a f).1 av cap) 26 ∧ But (fun i => i = g) w w' := by
  have hlt := hb.lt
  have c4 : w.cell? ⟨g, 4, none⟩ = some (.bool f.on) := cell_of hb 4 rfl
  have f4 := hb.frozen 4
  have kb : But (fun i => i = g) w (w.alloc (.cells #[] 98)) := Kept.but ((Kept.refl w).alloc _)
  have HKB := Lib.hid kb
  have HB := Lib.hid hb
  clear kb hb
  by_cases hlt2 : a < s.size
  · have hc : s.data.toList[a]? = some s[a] := by
      rw [List.getElem?_eq_getElem (by rw [size_len]; exact hlt2)]
      rfl
    by_cases h1 : 1 < s[a].toNat
    · have HX : Hid (Fr.onGet s.data.toList a f = (f, 0, 4)) := by show _ = _; rw [Fr.onGet_of hc, if_pos h1]
      clear hc
      go_enter Tryz.func163, Tryz.ntmps163
      go_wp2
      go_ret2
      exact ⟨by rw [HX.out]; rfl, by rw [HX.out]; exact HB.out.alloc _, HKB.out⟩
    · have HX : Hid (Fr.onGet s.data.toList a f = ({ f with on := decide (s[a].toNat = 1) }, a + 1, 0)) := by show _ = _; rw [Fr.onGet_of hc, if_neg h1]
      have B2 : Hid (Blk ((w.setCell ⟨g, 4, none⟩ (.bool (decide (s[a].toNat = 1)))).alloc (.cells #[] 98)) g (frc { f with on := decide (s[a].toNat = 1) } av cap) 26) := (HB.out.set 4 _).alloc _
      clear hc
      by_cases h3 : s[a].toNat = 1
      · rw [decide_eq_true h3] at B2 HX
        have h4 : s[a] = 1 := UInt8.toNat_inj.1 (by rw [h3]; rfl)
        go_enter Tryz.func163, Tryz.ntmps163
        go_wp2
        go_ret2
        exact ⟨by rw [HX.out]; rfl, by rw [HX.out]; exact B2.out, set_alloc_but _ _ _ _ _⟩
      · rw [decide_eq_false h3] at B2 HX
        have h4 : s[a] = 0 := UInt8.toNat_inj.1 (by show s[a].toNat = 0; omega)
        clear h1 h3
        go_enter Tryz.func163, Tryz.ntmps163
        go_wp2
        go_ret2
        exact ⟨by rw [HX.out]; rfl, by rw [HX.out]; exact B2.out, set_alloc_but _ _ _ _ _⟩
  · have HX : Hid (Fr.onGet s.data.toList a f = (f, 0, 3)) := by show _ = _; rw [Fr.onGet_no (List.getElem?_eq_none (by rw [size_len]; omega))]
    go_enter Tryz.func163, Tryz.ntmps163
    go_wp2
    go_ret2
    exact ⟨by rw [HX.out]; rfl, by rw [HX.out]; exact HB.out.alloc _, HKB.out⟩
end Go.Proofs.YtlfmpoinjbmjoaaGreatDoor

namespace Go.Proofs.YtlfmpoinjbmjoaaGreatDoor
open Go.ChangeShapes Go.WideShapes Go.ChangeAt Go.RowKit

/-- a part's type and its value -/
def pt : Fr.P → TypeId
  | .ep => 93
  | .sq _ => 93
  | .cr => 93
  | .ms => 96
  | .ev => 97
  | .on => 98
  | .fl => 99
def pv : Fr.P → Value
  | .ep => epv
  | .sq n => sqv n
  | .cr => crv
  | .ms => .agg #[]
  | .ev => .agg #[]
  | .on => .agg #[]
  | .fl => .agg #[]
theorem partv_eq (p : Fr.P) : partv p = .iface (pt p) (pv p) := by cases p <;> rfl
def mright : Fr.P → FuncId
  | .ep => 107
  | .sq _ => 107
  | .cr => 107
  | .ms => 126
  | .ev => 139
  | .on => 165
  | .fl => 170
theorem right_of (p : Fr.P) (w : World) : (method 275 (pt p) (pv p) "rivulet/frame.right").run Tryz.prog w = .ok (mright p, pv p) w := by cases p <;> kernel_rfl
theorem right_enter (p : Fr.P) (args : Array Value) (w : World) : (callFunc (mright p) args).run Tryz.prog w = .ok (.enter (mright p) args) w := by cases p <;> kernel_rfl
def mput : Fr.P → FuncId
  | .ep => 106
  | .sq _ => 106
  | .cr => 106
  | .ms => 125
  | .ev => 138
  | .on => 164
  | .fl => 169
theorem put_of (p : Fr.P) (w : World) : (method 275 (pt p) (pv p) "rivulet/frame.put").run Tryz.prog w = .ok (mput p, pv p) w := by cases p <;> kernel_rfl
theorem put_enter (p : Fr.P) (args : Array Value) (w : World) : (callFunc (mput p) args).run Tryz.prog w = .ok (.enter (mput p) args) w := by cases p <;> kernel_rfl
def mget : Fr.P → FuncId
  | .ep => 105
  | .sq _ => 105
  | .cr => 105
  | .ms => 124
  | .ev => 137
  | .on => 163
  | .fl => 168
theorem get_of (p : Fr.P) (w : World) : (method 275 (pt p) (pv p) "rivulet/frame.get").run Tryz.prog w = .ok (mget p, pv p) w := by cases p <;> kernel_rfl
theorem get_enter (p : Fr.P) (args : Array Value) (w : World) : (callFunc (mget p) args).run Tryz.prog w = .ok (.enter (mget p) args) w := by cases p <;> kernel_rfl
def mdrop : Fr.P → FuncId
  | .ep => 104
  | .sq _ => 104
  | .cr => 104
  | .ms => 123
  | .ev => 136
  | .on => 162
  | .fl => 167
theorem drop_of (p : Fr.P) (w : World) : (method 275 (pt p) (pv p) "rivulet/frame.drop").run Tryz.prog w = .ok (mdrop p, pv p) w := by cases p <;> kernel_rfl
theorem drop_enter (p : Fr.P) (args : Array Value) (w : World) : (callFunc (mdrop p) args).run Tryz.prog w = .ok (.enter (mdrop p) args) w := by cases p <;> kernel_rfl
/-- a frame in a block of its own, its marks elsewhere -/
structure FrB (w : World) (g : Nat) (f : Fr.F) (av : Option Addr) (cap : Nat) : Prop where
  blk : Blk w g (frc f av cap) 26
  s : FrS w f av cap
  off : f.ms = [] ∨ ∀ x, av = some x → x.block ≠ g
theorem mks_but {w w' : World} {av : Option Addr} {cap : Nat} {ms : List Ev.M} {g : Nat} (h : MkS w av cap ms) (hg : ms = [] ∨ ∀ x, av = some x → x.block ≠ g) (k : But (fun i => i = g) w w') : MkS w' av cap ms := by
  refine ⟨h.cap1, h.cap2, h.fit, ?_⟩
  rcases h.at_ with h0 | ⟨b, off, rfl, h2, h3⟩
  · exact .inl h0
  · rcases hg with h0 | hg
    · exact .inl h0
    have hne : b ≠ g := hg _ rfl
    have hB := k.block b h2 hne
    exact .inr ⟨b, off, rfl, Nat.lt_of_lt_of_le h2 k.size, fun j m hm => ⟨(World.cell?_of_block (a := ⟨b, off + j * 2, none⟩) hB).trans (h3 j m hm).1, (World.cell?_of_block (a := ⟨b, off + j * 2 + 1, none⟩) hB).trans (h3 j m hm).2⟩⟩
theorem FrB.kept {w w' : World} {g : Nat} {f : Fr.F} {av : Option Addr} {cap : Nat} (h : FrB w g f av cap) (k : Kept w w') : FrB w' g f av cap := ⟨h.blk.kept k, h.s.kept k, h.off⟩
theorem i64_clip (n : Nat) : I64 (Ev.clip n : Int) := by unfold I64 Ev.clip; omega
theorem i64_zero : I64 0 := by unfold I64; omega
theorem fit_zero : Fit .zero := by constructor <;> decide
theorem evget_fit (b : List UInt8) (a : Nat) (ha : a ≤ b.length) (hb : b.length ≤ 65536) : Fit (Ev.get b a).1 ∧ (Ev.get b a).1.t.size ≤ 65536 := by
  have key := Fr.evget_got_at b a ha
  have hz := (Ev.get_le b a).2
  generalize Ev.get b a = x at key hz ⊢
  obtain ⟨e, t, er⟩ := x
  simp only at hz ⊢
  by_cases h : er = 0
  · subst h
    obtain ⟨r, _, _, hbytes⟩ := key e t rfl
    have hr := (Ev.right_iff e).1 r
    have hl := congrArg List.length hbytes
    have hsz := size_len e.t
    simp only [Ev.bytes, Ev.its, List.flatMap_cons, List.flatMap_nil, List.length_append, Ev.iput, List.length_take, List.length_drop] at hl
    exact ⟨⟨by omega, by omega, by omega, by omega, by omega, by omega, by omega, by omega⟩, by omega⟩
  · rw [(hz h).1]
    exact ⟨fit_zero, by decide⟩
theorem right_p (p : Fr.P) (f : Fr.F) (av : Option Addr) (cap g : Nat) (w : World) (h : FrB w g f av cap) :
    Calls Tryz.prog (mright p) #[pv p, .pointer (some ⟨g, 0, none⟩)] w fun r w' => r = .returned (.bool (p.right f)) ∧ Kept w w' := by
  cases p with
  | ep => exact ep_right f.ep g w (cell_of h.blk 1 rfl)
  | sq n => exact sq_right n f.sq g w (cell_of h.blk 2 rfl)
  | cr => exact cr_right f.cr g w (cell_of h.blk 3 rfl)
  | ms => exact ms_right f av cap g w h.blk h.s.ms
  | ev => exact ev_right f av cap g w h.blk h.s.e
  | on => exact on_right g w
  | fl => exact fl_right f av cap g w h.blk h.s.fl
theorem put_p (p : Fr.P) (f : Fr.F) (av : Option Addr) (cap g : Nat) (w : World) (h : FrB w g f av cap) (hr : p.right f = true) (h0 : ∀ n, p = .sq n → 0 ≤ n) (hT : Tab w) :
    Calls Tryz.prog (mput p) #[pv p, .pointer (some ⟨g, 0, none⟩)] w fun r w' => r = .returned (str (p.put f)) ∧ Kept w w' := by
  cases p with
  | ep =>
    have := of_decide_eq_true hr
    exact ep_put f.ep g w (cell_of h.blk 1 rfl) (by omega) this.2 hT
  | sq n =>
    have := of_decide_eq_true hr
    have := h0 n rfl
    exact sq_put n f.sq g w (cell_of h.blk 2 rfl) (by omega) (by omega) hT
  | cr =>
    have := of_decide_eq_true hr
    exact cr_put f.cr g w (cell_of h.blk 3 rfl) this.1 (by omega) hT
  | ms => exact ms_put f av cap g w h.blk h.s.ms hT
  | ev => exact ev_put f av cap g w h.blk h.s.e h.s.et hT
  | on => exact on_put f av cap g w h.blk
  | fl => exact fl_put f av cap g w h.blk h.s.fl hT
theorem num_set {w w1 : World} {g : Nat} {f f' : Fr.F} {av : Option Addr} {cap : Nat} (h : FrB w g f av cap) (k : Kept w w1) (i : Nat) (v : Value) (hc : (frc f av cap).setIfInBounds i v = frc f' av cap) (hf : I64 f'.k ∧ I64 f'.ep ∧ I64 f'.sq ∧ I64 f'.cr ∧ f'.fl = f.fl ∧ f'.e = f.e ∧ f'.ms = f.ms) :
    FrB (w1.setCell ⟨g, i, none⟩ v) g f' av cap ∧ But (fun j => j = g) w (w1.setCell ⟨g, i, none⟩ v) := by
  obtain ⟨a1, a2, a3, a4, a5, a6, a7⟩ := hf
  have hb := (h.blk.kept k).set i v
  rw [hc] at hb
  exact ⟨⟨hb, ⟨a1, a2, a3, a4, by rw [a5]; exact h.s.fl, by rw [a6]; exact h.s.et, by rw [a6]; exact h.s.e, by rw [a7]; exact mks_set (h.s.ms.kept k) h.off _ _⟩, by rw [a7]; exact h.off⟩, kept_set_but k _ _ _⟩
theorem drop_p (p : Fr.P) (f : Fr.F) (av : Option Addr) (cap g : Nat) (w : World) (h : FrB w g f av cap) :
    Calls Tryz.prog (mdrop p) #[pv p, .pointer (some ⟨g, 0, none⟩)] w fun r w' => r = .returned (.tuple #[]) ∧ (∃ av' cap', FrB w' g (p.drop f) av' cap') ∧ But (fun i => i = g) w w' := by
  have hs := h.s
  cases p with
  | ep =>
    refine (ep_drop _ g w (cell_of h.blk 1 rfl) (h.blk.frozen 1)).mono ?_
    rintro r w' ⟨hr, w1, k, rfl⟩
    have := num_set (f' := Fr.P.drop .ep f) h k 1 (.int .i64 0) rfl ⟨hs.k, i64_zero, hs.sq, hs.cr, rfl, rfl, rfl⟩
    exact ⟨hr, ⟨av, cap, this.1⟩, this.2⟩
  | sq n =>
    refine (sq_drop n _ g w (cell_of h.blk 2 rfl) (h.blk.frozen 2)).mono ?_
    rintro r w' ⟨hr, w1, k, rfl⟩
    have := num_set (f' := Fr.P.drop (.sq n) f) h k 2 (.int .i64 0) rfl ⟨hs.k, hs.ep, i64_zero, hs.cr, rfl, rfl, rfl⟩
    exact ⟨hr, ⟨av, cap, this.1⟩, this.2⟩
  | cr =>
    refine (cr_drop _ g w (cell_of h.blk 3 rfl) (h.blk.frozen 3)).mono ?_
    rintro r w' ⟨hr, w1, k, rfl⟩
    have := num_set (f' := Fr.P.drop .cr f) h k 3 (.int .i64 0) rfl ⟨hs.k, hs.ep, hs.sq, i64_zero, rfl, rfl, rfl⟩
    exact ⟨hr, ⟨av, cap, this.1⟩, this.2⟩
  | ms =>
    refine (ms_drop f av cap g w h.blk).mono ?_
    rintro r w' ⟨hr, hb, k⟩
    exact ⟨hr, ⟨none, 0, hb, ⟨hs.k, hs.ep, hs.sq, hs.cr, hs.fl, hs.et, hs.e, MkS.nil w'⟩, .inl rfl⟩, k⟩
  | ev =>
    refine (ev_drop f av cap g w h.blk).mono ?_
    rintro r w' ⟨hr, hb, k⟩
    exact ⟨hr, ⟨av, cap, hb, ⟨hs.k, hs.ep, hs.sq, hs.cr, hs.fl, Nat.zero_le _, fit_zero, mks_but hs.ms h.off k⟩, h.off⟩, k⟩
  | on =>
    refine (on_drop f av cap g w h.blk).mono ?_
    rintro r w' ⟨hr, hb, k⟩
    exact ⟨hr, ⟨av, cap, hb, ⟨hs.k, hs.ep, hs.sq, hs.cr, hs.fl, hs.et, hs.e, mks_but hs.ms h.off k⟩, h.off⟩, k⟩
  | fl =>
    refine (fl_drop f av cap g w h.blk).mono ?_
    rintro r w' ⟨hr, hb, k⟩
    exact ⟨hr, ⟨av, cap, hb, ⟨hs.k, hs.ep, hs.sq, hs.cr, Nat.zero_le _, hs.et, hs.e, mks_but hs.ms h.off k⟩, h.off⟩, k⟩
theorem get_p (p : Fr.P) (s : ByteArray) (a : Nat) (f : Fr.F) (av : Option Addr) (cap g : Nat) (w : World) (h : FrB w g f av cap) (hz : s.size ≤ 65536) (hal : a ≤ s.size) (hT : Tab w) :
    Calls Tryz.prog (mget p) #[pv p, .pointer (some ⟨g, 0, none⟩), .string s, .int .i64 a] w fun r w' => r = .returned (.tuple #[.int .i64 (p.get s.data.toList a f).2.1, .int .i64 (p.get s.data.toList a f).2.2]) ∧ (∃ av' cap', FrB w' g (p.get s.data.toList a f).1 av' cap') ∧ But (fun i => i = g) w w' := by
  have hs := h.s
  have hlen := size_len s
  have ha : a ≤ 65536 := by omega
  cases p with
  | ep =>
    refine (ep_get s a _ g w hz ha hT (cell_of h.blk 1 rfl) (h.blk.frozen 1)).mono ?_
    rintro r w' ⟨hr, w1, k, rfl⟩
    have := num_set (f' := (Fr.P.get .ep s.data.toList a f).1) h k 1 (.int .i64 (Ev.clip (vget s.data.toList a).1)) rfl ⟨hs.k, i64_clip _, hs.sq, hs.cr, rfl, rfl, rfl⟩
    exact ⟨hr, ⟨av, cap, this.1⟩, this.2⟩
  | sq n =>
    refine (sq_get n s a _ g w hz ha hT (cell_of h.blk 2 rfl) (h.blk.frozen 2)).mono ?_
    rintro r w' ⟨hr, w1, k, rfl⟩
    have := num_set (f' := (Fr.P.get (.sq n) s.data.toList a f).1) h k 2 (.int .i64 (Ev.clip (vget s.data.toList a).1)) rfl ⟨hs.k, hs.ep, i64_clip _, hs.cr, rfl, rfl, rfl⟩
    exact ⟨hr, ⟨av, cap, this.1⟩, this.2⟩
  | cr =>
    refine (cr_get s a _ g w hz ha hT (cell_of h.blk 3 rfl) (h.blk.frozen 3)).mono ?_
    rintro r w' ⟨hr, w1, k, rfl⟩
    have := num_set (f' := (Fr.P.get .cr s.data.toList a f).1) h k 3 (.int .i64 (Ev.clip (vget s.data.toList a).1)) rfl ⟨hs.k, hs.ep, hs.sq, i64_clip _, rfl, rfl, rfl⟩
    exact ⟨hr, ⟨av, cap, this.1⟩, this.2⟩
  | ms =>
    refine (ms_get s a f av cap g w h.blk hz ha hT).mono ?_
    rintro r w' ⟨hr, ⟨av', cap', hb, hm, ho⟩, k⟩
    have hlt := h.blk.lt
    exact ⟨hr, ⟨av', cap', hb, ⟨hs.k, hs.ep, hs.sq, hs.cr, hs.fl, hs.et, hs.e, hm⟩, ho.imp id fun h x hx => by have := h x hx; omega⟩, k⟩
  | ev =>
    have hfit := evget_fit s.data.toList a (by omega) (by omega)
    have hc := ev_get s a f av cap g w h.blk hz ha hT
    simp only [Fr.P.get]
    generalize Ev.get s.data.toList (a : Int) = X at hfit hc ⊢
    refine hc.mono ?_
    rintro r w' ⟨hr, hb, k⟩
    exact ⟨hr, ⟨av, cap, hb, ⟨hs.k, hs.ep, hs.sq, hs.cr, hs.fl, hfit.2, hfit.1, mks_but hs.ms h.off k⟩, h.off⟩, k⟩
  | on =>
    refine (on_get s a f av cap g w h.blk hz ha).mono ?_
    rintro r w' ⟨hr, hb, k⟩
    have hf : (Fr.onGet s.data.toList a f).1 = { f with on := (Fr.onGet s.data.toList a f).1.on } := by
      unfold Fr.onGet
      split
      · rfl
      · split <;> rfl
    refine ⟨hr, ⟨av, cap, hb, ?_, ?_⟩, k⟩
    · show FrS w' (Fr.onGet s.data.toList a f).1 av cap
      rw [hf]
      exact ⟨hs.k, hs.ep, hs.sq, hs.cr, hs.fl, hs.et, hs.e, mks_but hs.ms h.off k⟩
    · show (Fr.onGet s.data.toList a f).1.ms = [] ∨ _
      rw [hf]
      exact h.off
  | fl =>
    have hcl := (Ck.vcut_le s.data.toList a).1
    refine (fl_get s a f av cap g w h.blk hz ha hT).mono ?_
    rintro r w' ⟨hr, hb, k⟩
    exact ⟨hr, ⟨av, cap, hb, ⟨hs.k, hs.ep, hs.sq, hs.cr, by show (vcut s.data.toList a).1.toArray.size ≤ 65536; simpa using hcl, hs.et, hs.e, mks_but hs.ms h.off k⟩, h.off⟩, k⟩
end Go.Proofs.YtlfmpoinjbmjoaaGreatDoor
