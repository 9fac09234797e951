/-
  The walk of Cut.
-/
import Derived.Test.YtlfmpoinjbmjoaaGreatDoorEgetw
import Derived.Test.YtlfmpoinjbmjoaaGreatDoorEmark
import Derived.Deep.RegionHeld3
namespace Go.Proofs.YtlfmpoinjbmjoaaGreatDoor
open Go.ChangeShapes Go.WideShapes Go.ChangeAt Go.RowKit

/-- the parts of marks -/
def MP (n : Nat) : List Pt := (List.range n).map fun j => ⟨true, 0, j⟩
theorem MP_succ (n : Nat) : MP (n + 1) = MP n ++ [⟨true, 0, n⟩] := by simp [MP, List.range_succ]
def mgot (l : List UInt8) (a : Int) (Z : Array Value) (n : Nat) : (List Ev.It × Int × Nat) × Array Value := tk l (([], a, 0), Z) (MP n)
theorem mgot_succ (l : List UInt8) (a : Int) (Z : Array Value) (n : Nat) : mgot l a Z (n + 1) = tk1 l (mgot l a Z n) ⟨true, 0, n⟩ := by
  rw [mgot, MP_succ, tk, List.foldl_append]; rfl
theorem mgot_fst (l : List UInt8) (a : Int) (Z : Array Value) (n : Nat) : (mgot l a Z n).1 = Ev.igets (List.replicate n true) l a := by
  have h : (MP n).map Pt.kind = List.replicate n true := by
    rw [MP, List.map_map]
    apply List.ext_getElem
    · simp
    · intro i h1 h2; simp
  rw [mgot, tk_fst, h, Ev.igets]
theorem mgot_size (l : List UInt8) (a : Int) (Z : Array Value) (n : Nat) : (mgot l a Z n).2.size = Z.size := by rw [mgot, tk_size]
theorem mgot_fair (l : List UInt8) (hl : l.length ≤ 9223372036854775807) (a : Int) (h1 : -9223372036854775808 ≤ a) (h2 : a ≤ 9223372036854775807) (Z : Array Value) (n : Nat) : Fair (mgot l a Z n).1 := by
  rw [mgot, tk_fst]; exact fold_fair l hl _ _ ⟨h1, h2, Nat.zero_le _⟩
theorem mgot_at (l : List UInt8) (a : Int) (Z : Array Value) : ∀ n, n ≤ Z.size → (mgot l a Z n).1.2.2 = 0 →
    (mgot l a Z n).1.1.length = n ∧ (0 ≤ a → 0 ≤ (mgot l a Z n).1.2.1) ∧ ∀ j, j < n → ∃ k, (mgot l a Z n).1.1[j]? = some (.n k) ∧ (mgot l a Z n).2[j]? = some (.int .i64 (Ev.clip k))
  | 0, _, _ => ⟨rfl, fun h => h, fun j hj => by omega⟩
  | n + 1, hn, h => by
    have hz := mgot_size l a Z n
    rw [mgot_succ] at h ⊢
    obtain ⟨h0, e1, e2⟩ := tk1_ok l _ _ h
    obtain ⟨r1, r2, r3⟩ := mgot_at l a Z n (by omega) h0
    have e3 : (tk1 l (mgot l a Z n) ⟨true, 0, n⟩).1 = Ev.istep l (mgot l a Z n).1 true := by unfold tk1; rw [if_pos h0]
    refine ⟨by rw [e1, List.length_append, r1]; rfl, fun ha => ?_, fun j hj => ?_⟩
    · rw [e3, Ev.istep_keeps l _ true h0]
      exact Int.natCast_nonneg _
    · rw [e1, e2]
      by_cases hjn : j = n
      · subst hjn
        refine ⟨(vget l (mgot l a Z j).1.2.1).1, ?_, ?_⟩
        · rw [List.getElem?_append_right (by omega), r1, Nat.sub_self]; rfl
        · rw [Array.getElem?_setIfInBounds, if_pos rfl, if_pos (by simp only; omega)]; rfl
      · obtain ⟨k, k1, k2⟩ := r3 j (by omega)
        refine ⟨k, ?_, ?_⟩
        · rw [List.getElem?_append_left (by omega)]; exact k1
        · rw [Array.getElem?_setIfInBounds, if_neg (by simp only; omega)]; exact k2
theorem ofPairs_at : ∀ (n : Nat) (xs : List Ev.It), xs.length = 2 * n → (∀ j, j < 2 * n → ∃ k, xs[j]? = some (.n k)) → (Ev.ofPairs xs).length = n ∧
    ∀ i, i < n → ∃ p q, xs[2 * i]? = some (.n p) ∧ xs[2 * i + 1]? = some (.n q) ∧ (Ev.ofPairs xs)[i]? = some ⟨Ev.clip p, Ev.clip q⟩
  | 0, xs, h, _ => by
    have : xs = [] := List.eq_nil_of_length_eq_zero (by omega)
    subst this
    exact ⟨rfl, fun i hi => by omega⟩
  | n + 1, xs, h, hx => by
    obtain ⟨p, hp⟩ := hx 0 (by omega)
    obtain ⟨q, hq⟩ := hx 1 (by omega)
    match xs, h, hp, hq with
    | x :: y :: r, h, hp, hq =>
      simp only [List.getElem?_cons_zero, List.getElem?_cons_succ, Option.some.injEq] at hp hq
      subst hp hq
      obtain ⟨r1, r2⟩ := ofPairs_at n r (by simp only [List.length_cons] at h; omega) (fun j hj => by
        obtain ⟨k, hk⟩ := hx (j + 2) (by omega)
        exact ⟨k, by simpa using hk⟩)
      refine ⟨by simp [Ev.ofPairs, r1], fun i hi => ?_⟩
      cases i with
      | zero => exact ⟨p, q, rfl, rfl, rfl⟩
      | succ i =>
        obtain ⟨p', q', a1, a2, a3⟩ := r2 i (by omega)
        refine ⟨p', q', ?_, ?_, ?_⟩
        · rw [show 2 * (i + 1) = 2 * i + 1 + 1 by omega, List.getElem?_cons_succ, List.getElem?_cons_succ]; exact a1
        · rw [show 2 * (i + 1) + 1 = 2 * i + 1 + 1 + 1 by omega, List.getElem?_cons_succ, List.getElem?_cons_succ]; exact a2
        · simpa [Ev.ofPairs] using a3
/-- what was taken is a row of marks -/
theorem mgot_marks (l : List UInt8) (a : Int) (Z : Array Value) (n L : Nat) (t : TypeId) (w : World) (hn : n ≤ 32) (hZ : Z.size = 2 * n) (h : (mgot l a Z (2 * n)).1.2.2 = 0) (hb : Blk w L (mgot l a Z (2 * n)).2 t) :
    (Ev.ofPairs (mgot l a Z (2 * n)).1.1).length = n ∧ MkS w (some ⟨L, 0, none⟩) n (Ev.ofPairs (mgot l a Z (2 * n)).1.1) := by
  obtain ⟨r1, _, r3⟩ := mgot_at l a Z (2 * n) (by omega) h
  obtain ⟨o1, o2⟩ := ofPairs_at n _ r1 (fun j hj => let ⟨k, k1, _⟩ := r3 j hj; ⟨k, k1⟩)
  have hc : ∀ x, Ev.clip x ≤ 1099511627777 := fun x => by unfold Ev.clip; omega
  refine ⟨o1, by omega, by omega, fun m hm => ?_, .inr ⟨L, 0, rfl, hb.lt, fun i m hm => ?_⟩⟩
  · obtain ⟨i, hi⟩ := List.getElem?_of_mem hm
    have hin : i < n := by
      rcases Nat.lt_or_ge i n with h | h
      · exact h
      · rw [List.getElem?_eq_none (by omega)] at hi; cases hi
    obtain ⟨p, q, _, _, e⟩ := o2 i hin
    rw [hi] at e
    cases e
    have := hc p
    have := hc q
    unfold mfit
    simp only
    omega
  · have hin : i < n := by
      rcases Nat.lt_or_ge i n with h | h
      · exact h
      · rw [List.getElem?_eq_none (by omega)] at hm; cases hm
    obtain ⟨p, q, e1, e2, e⟩ := o2 i hin
    rw [hm] at e
    cases e
    obtain ⟨p', p1, p2⟩ := r3 (2 * i) (by omega)
    obtain ⟨q', q1, q2⟩ := r3 (2 * i + 1) (by omega)
    rw [e1] at p1
    rw [e2] at q1
    cases p1
    cases q1
    simp only [Nat.zero_add]
    rw [hb.cell, hb.cell, Nat.mul_comm i 2, p2, q2]
    exact ⟨rfl, rfl⟩

theorem infoMark : (Tryz.prog.info? 63).map (fun i => (i.zero, i.size, i.bytes)) = some (some (.agg #[.int .i64 0, .int .i64 0]), 2, 16) := by kernel_rfl
theorem make_marks (k : Nat) (hk : k ≤ 32) : ∃ Z : Array Value, Z.size = 2 * k ∧ ∀ W : World, (Instr.makeSlice 24 (.int .i64 (k : Int)) (.int .i64 (k : Int))).run Tryz.prog W = .ok (.slice (some ⟨W.heap.size, 0, none⟩) k k) (W.alloc (.cells Z 63)) := by
  obtain ⟨i0, hi, hz0, hz1, hz2⟩ := info_parts infoMark
  refine ⟨madeCells (Value.agg #[.int .i64 0, .int .i64 0]).cells (k * 2), by simp [madeCells, Nat.mul_comm], fun W => ?_⟩
  rw [run_make (P := Tryz.prog) W 24 63 i0 (.agg #[.int .i64 0, .int .i64 0]) Tryz.underlying24 hi hz0 .i64 .i64 (k : Int) (k : Int) (by omega) (by omega) (by rw [hz2]; omega) (by omega)]
  rw [hz1, Int.toNat_natCast]

theorem take_nums (o1 o2 n f sb ab g : Nat) (t : TypeId) (s : ByteArray) (st : List Ev.It × Int × Nat) (arr : Array Value) (wr : World) (hs : s.size ≤ 140737488355328) (hst : Fair st) (hT : Tab wr) (h0 : 0 < n)
    (hfar : Far n f sb ab g) (htk : Tk wr f sb ab s st) (hg : Blk wr g arr t) (ho1 : o1 < arr.size) (ho2 : o2 < arr.size) :
    Calls Tryz.prog 134 #[.slice (some ⟨wr.heap.size + 1 + 1, 0, none⟩) 2 2, .pointer (some ⟨f, 0, none⟩), .pointer (some ⟨sb, 0, none⟩), .pointer (some ⟨ab, 0, none⟩)]
      (((wr.alloc (.cells #[.pointer (some ⟨g, o1, none⟩)] 90)).alloc (.cells #[.pointer (some ⟨g, o2, none⟩)] 90)).alloc (.cells #[.func (.func 135) #[] #[.pointer (some ⟨wr.heap.size, 0, none⟩)], .func (.func 135) #[] #[.pointer (some ⟨wr.heap.size + 1, 0, none⟩)]] 157)) fun e w' =>
      e = .returned (.tuple #[.int .i64 (tk1 s.data.toList (tk1 s.data.toList (st, arr) ⟨true, 0, o1⟩) ⟨true, 0, o2⟩).1.2.1, .int .i64 (tk1 s.data.toList (tk1 s.data.toList (st, arr) ⟨true, 0, o1⟩) ⟨true, 0, o2⟩).1.2.2]) ∧
        Took wr f sb ab g s t (tk1 s.data.toList (tk1 s.data.toList (st, arr) ⟨true, 0, o1⟩) ⟨true, 0, o2⟩) w' := by
  have b1 := Blk.made ((wr.alloc (.cells #[.pointer (some ⟨g, o1, none⟩)] 90)).alloc (.cells #[.pointer (some ⟨g, o2, none⟩)] 90)) #[.func (.func 135) #[] #[.pointer (some ⟨wr.heap.size, 0, none⟩)], .func (.func 135) #[] #[.pointer (some ⟨wr.heap.size + 1, 0, none⟩)]] 157
  have b2 := ((Blk.made wr #[.pointer (some ⟨g, o1, none⟩)] 90).alloc (.cells #[.pointer (some ⟨g, o2, none⟩)] 90)).alloc (.cells #[.func (.func 135) #[] #[.pointer (some ⟨wr.heap.size, 0, none⟩)], .func (.func 135) #[] #[.pointer (some ⟨wr.heap.size + 1, 0, none⟩)]] 157)
  have b3 := (Blk.made (wr.alloc (.cells #[.pointer (some ⟨g, o1, none⟩)] 90)) #[.pointer (some ⟨g, o2, none⟩)] 90).alloc (.cells #[.func (.func 135) #[] #[.pointer (some ⟨wr.heap.size, 0, none⟩)], .func (.func 135) #[] #[.pointer (some ⟨wr.heap.size + 1, 0, none⟩)]] 157)
  rw [World.size_alloc, World.size_alloc] at b1
  rw [World.size_alloc] at b3
  have kk : Kept wr (((wr.alloc (.cells #[.pointer (some ⟨g, o1, none⟩)] 90)).alloc (.cells #[.pointer (some ⟨g, o2, none⟩)] 90)).alloc (.cells #[.func (.func 135) #[] #[.pointer (some ⟨wr.heap.size, 0, none⟩)], .func (.func 135) #[] #[.pointer (some ⟨wr.heap.size + 1, 0, none⟩)]] 157)) := Kept.alloc (Kept.alloc (Kept.alloc (Kept.refl wr) _) _) _
  refine take_parts [⟨true, wr.heap.size, o1⟩, ⟨true, wr.heap.size + 1, o2⟩] _ n (wr.heap.size + 1 + 1) f sb ab g t s st arr wr _ hs hst (hT.kept kk) (by simp) h0 hfar kk htk hg (.inr ⟨rfl, by omega, _, b1⟩) ?_
  intro p hp
  simp only [List.mem_cons, List.not_mem_nil, or_false] at hp
  rcases hp with rfl | rfl
  · exact ⟨Nat.le_refl _, ho1, _, b2⟩
  · exact ⟨Nat.le_succ _, ho2, _, b3⟩
end Go.Proofs.YtlfmpoinjbmjoaaGreatDoor

namespace Go.Proofs.YtlfmpoinjbmjoaaGreatDoor
open Go.ChangeShapes Go.WideShapes Go.ChangeAt Go.RowKit

/-- marks, a place and an error as Cut tells them -/
def CutRes (w : World) (x : List Ev.M × Nat × Nat) (r : Ending) (w' : World) : Prop :=
  ∃ av cap, r = .returned (.tuple #[.slice av x.1.length cap, .int .i64 x.2.1, .int .i64 x.2.2]) ∧ MkS w' av cap x.1 ∧ Kept w w'
theorem cutRes_nil {w w' : World} {x : List Ev.M × Nat × Nat} {e : Nat} (hx : x = ([], 0, e)) (k : Kept w w') : CutRes w x (.returned (.tuple #[.slice none 0 0, .int .i64 0, .int .i64 e])) w' := by
  subst hx
  exact ⟨none, 0, rfl, MkS.nil w', k⟩

/-- the same, and the marks are the call's own -/
def CutNew (w : World) (x : List Ev.M × Nat × Nat) (r : Ending) (w' : World) : Prop :=
  ∃ av cap, r = .returned (.tuple #[.slice av x.1.length cap, .int .i64 x.2.1, .int .i64 x.2.2]) ∧ MkS w' av cap x.1 ∧ Kept w w' ∧ (x.1 = [] ∨ ∀ a, av = some a → w.heap.size ≤ a.block)
theorem CutNew.res {w w' : World} {x : List Ev.M × Nat × Nat} {r : Ending} (h : CutNew w x r w') : CutRes w x r w' := let ⟨av, cap, h1, h2, h3, _⟩ := h; ⟨av, cap, h1, h2, h3⟩
theorem cutNew_nil {w w' : World} {x : List Ev.M × Nat × Nat} {e : Nat} (hx : x = ([], 0, e)) (k : Kept w w') : CutNew w x (.returned (.tuple #[.slice none 0 0, .int .i64 0, .int .i64 e])) w' := by
  subst hx
  exact ⟨none, 0, rfl, MkS.nil w', k, .inl rfl⟩

theorem four (w : World) (c0 c1 c2 c3 : Array Value) (t0 t1 t2 t3 : TypeId) :
    Blk ((((w.alloc (.cells c0 t0)).alloc (.cells c1 t1)).alloc (.cells c2 t2)).alloc (.cells c3 t3)) w.heap.size c0 t0 ∧
    Blk ((((w.alloc (.cells c0 t0)).alloc (.cells c1 t1)).alloc (.cells c2 t2)).alloc (.cells c3 t3)) (w.heap.size + 1) c1 t1 ∧
    Blk ((((w.alloc (.cells c0 t0)).alloc (.cells c1 t1)).alloc (.cells c2 t2)).alloc (.cells c3 t3)) (w.heap.size + 1 + 1) c2 t2 ∧
    Blk ((((w.alloc (.cells c0 t0)).alloc (.cells c1 t1)).alloc (.cells c2 t2)).alloc (.cells c3 t3)) (w.heap.size + 1 + 2) c3 t3 := by
  have h0 := Blk.made w c0 t0
  have h1 := Blk.made (w.alloc (.cells c0 t0)) c1 t1
  have h2 := Blk.made ((w.alloc (.cells c0 t0)).alloc (.cells c1 t1)) c2 t2
  have h3 := Blk.made (((w.alloc (.cells c0 t0)).alloc (.cells c1 t1)).alloc (.cells c2 t2)) c3 t3
  simp only [World.size_alloc] at h0 h1 h2 h3
  exact ⟨((h0.alloc _).alloc _).alloc _, (h1.alloc _).alloc _, h2.alloc _, h3⟩

set_option maxHeartbeats 2000000 in
set_option maxRecDepth 100000 in
theorem evcut_new (s : ByteArray) (a : Int) (w : World) (hs : s.size ≤ 140737488355328) (h1 : -9223372036854775808 ≤ a) (h2 : a ≤ 9223372036854775807) (hT : Tab w) :
    Calls Tryz.prog 128 #[.string s, .int .i64 a] w (CutNew w (Ev.mcut s.data.toList a)) := by
  have Hsl := Lib.hid (size_len s)
  have h0 := hT.size
  have HT := Lib.hid hT
  clear hT
  go_enter Tryz.func128, Tryz.ntmps128
  go_wp2_with fail
  refine (taker_any s a _).mono ?_
  rintro r w1 ⟨rfl, rfl⟩
  simp only [World.size_alloc]
  go_wp2_with fail
  refine (number_any _ _ _).mono ?_
  rintro r w1 ⟨rfl, rfl⟩
  have H4 := Lib.hid (four w #[.int .i64 0] #[.string s] #[.int .i64 a] #[.int .i64 0] 3 9 3 34)
  have hk4 : Kept w ((((w.alloc (.cells #[.int .i64 0] 3)).alloc (.cells #[.string s] 9)).alloc (.cells #[.int .i64 a] 3)).alloc (.cells #[.int .i64 0] 34)) := (((Kept.refl w).alloc _).alloc _).alloc _ |>.alloc _
  obtain ⟨w4, hw4⟩ : ∃ w4, w4 = (((w.alloc (.cells #[.int .i64 0] 3)).alloc (.cells #[.string s] 9)).alloc (.cells #[.int .i64 a] 3)).alloc (.cells #[.int .i64 0] 34) := ⟨_, rfl⟩
  rw [← hw4] at H4 hk4 ⊢
  clear hw4
  obtain ⟨b0, b1, b2, b3⟩ := H4.out
  obtain ⟨R, hR⟩ : ∃ R, R = w.heap.size := ⟨_, rfl⟩
  rw [← hR] at h0 b0 b1 b2 b3 ⊢
  have HR := Lib.hid hR
  have htk0 : Tk w4 (R + 1 + 2) (R + 1) (R + 1 + 1) s ([], a, 0) := ⟨b3, b1, b2⟩
  have hfar : Far R (R + 1 + 2) (R + 1) (R + 1 + 1) R := by constructor <;> omega
  have HF := Lib.hid hfar
  have HTk0 := Lib.hid htk0
  have B0 := Lib.hid b0
  have HT4 := Lib.hid (HT.out.kept hk4)
  have K4 := Lib.hid hk4
  clear H4 hR htk0 hfar b0 b1 b2 b3 hk4
  go_wp2_with fail
  refine (take_num 0 R (R + 1 + 2) (R + 1) (R + 1 + 1) R 3 s ([], a, 0) _ w4 hs ⟨h1, h2, Nat.zero_le _⟩ HT4.out h0 HF.out HTk0.out B0.out (by simp)).mono ?_
  rintro r w8 ⟨rfl, t8⟩
  have e1 : (tk1 s.data.toList (([], a, 0), #[.int .i64 0]) ⟨true, 0, 0⟩).1.2 = (((vget s.data.toList a).2.1 : Int), (vget s.data.toList a).2.2) := Ev.istep_keeps s.data.toList ([], a, 0) true rfl
  have e2 : (tk1 s.data.toList (([], a, 0), #[.int .i64 0]) ⟨true, 0, 0⟩).2 = #[.int .i64 (Ev.clip (vget s.data.toList a).1)] := rfl
  obtain ⟨⟨t81, t82, t83⟩, t84, t85⟩ := t8
  rw [e1] at t81 t83 ⊢
  rw [e2] at t84
  have hcut : Ev.mcut s.data.toList a = Ev.mcut s.data.toList a := rfl
  conv at hcut => rhs; unfold Ev.mcut
  have hle := vget_le s.data.toList a
  obtain ⟨⟨c, to, er⟩, hv⟩ : ∃ x, x = vget s.data.toList a := ⟨_, rfl⟩
  rw [← hv, Hsl.out] at hle
  rw [← hv] at t81 t83 t84 hcut ⊢
  simp only at t81 t83 t84 hcut hle ⊢
  obtain ⟨l1, l2, l3⟩ := hle
  have hclip : Ev.clip c ≤ 1099511627777 := by unfold Ev.clip; omega
  have Hcut := Lib.hid hcut
  have c0 := t84.cell 0
  simp only [List.getElem?_toArray, List.getElem?_cons_zero] at c0
  have kw8 : Kept w w8 := But.after K4.out t85 (fun i hi => by rw [← HR.out] at hi; rintro (h | h | h) <;> omega)
  have KW8 := Lib.hid kw8
  have htk8 : Tk w8 (R + 1 + 2) (R + 1) (R + 1 + 1) s ([], (to : Int), er) := ⟨t81, t82, t83⟩
  have HTk8 := Lib.hid htk8
  have HT8 := Lib.hid (HT.out.kept kw8)
  have hR8 := t81.lt
  clear e1 e2 t81 t82 t83 t84 t85 hcut hv kw8 htk8 HTk0 B0 HT4 K4
  by_cases he : er = 0
  · subst he
    by_cases hbig : 32 < c
    · have hb2 : (32 : Int) < (Ev.clip c : Int) := by unfold Ev.clip; omega
      have HC : Hid (Ev.mcut s.data.toList a = ([], 0, 2)) := by show _ = _; rw [Hcut.out, if_neg (by simp), if_pos hbig]
      go_wp2
      go_ret3
      exact cutNew_nil HC.out KW8.out
    · have hcc : Ev.clip c = c := by unfold Ev.clip; omega
      rw [hcc] at c0
      obtain ⟨Z, hZ, hmk⟩ := make_marks c (by omega)
      have HZ := Lib.hid hZ
      have hb3 : decide ((32 : Int) < (c : Int)) = false := by simp; omega
      clear hZ hcc hclip
      go_wp2
      clear hmk c0
      have b9 := Blk.made w8 Z 63
      have k9 : Kept w8 (w8.alloc (.cells Z 63)) := (Kept.refl w8).alloc _
      obtain ⟨w9, hw9⟩ : ∃ w9, w9 = w8.alloc (.cells Z 63) := ⟨_, rfl⟩
      rw [← hw9] at b9 k9 ⊢
      obtain ⟨L, hL⟩ : ∃ L, L = w8.heap.size := ⟨_, rfl⟩
      rw [← hL] at b9 ⊢
      have htk9 : Tk w9 (R + 1 + 2) (R + 1) (R + 1 + 1) s ([], (to : Int), 0) := ⟨HTk8.out.first.kept k9, HTk8.out.text.kept k9, HTk8.out.at_.kept k9⟩
      have hfarL : Far R (R + 1 + 2) (R + 1) (R + 1 + 1) L := by constructor <;> omega
      have HFL := Lib.hid hfarL
      have HTk9 := Lib.hid htk9
      have B9 := Lib.hid b9
      have K9 := Lib.hid (KW8.out.trans k9)
      have HT9 := Lib.hid (HT8.out.kept k9)
      have hRL : R ≤ L := by omega
      clear hw9 b9 k9 htk9 hfarL hL
      go_loopw [12, 34] (fun _ i wr => ∃ k : Nat, k ≤ c ∧ i = .int .i64 k ∧ Took w9 (R + 1 + 2) (R + 1) (R + 1 + 1) L s 63 (mgot s.data.toList to Z (2 * k)) wr) (fun _ i _ => c - (intOf i).toNat)
      case atStart => exact ⟨0, by omega, rfl, HTk9.out, B9.out, But.refl _ _⟩
      case round =>
        obtain ⟨k, hk, rfl, htk⟩ := hrel
        have hTr : Tab wr := HT9.out.but htk.2.2 (by rintro (h | h | h) <;> omega)
        have hfair := mgot_fair s.data.toList (by rw [Hsl.out]; omega) to (by omega) (by omega) Z (2 * k)
        have hgs := mgot_size s.data.toList to Z (2 * k)
        have HTr := Lib.hid hTr
        have Hfair := Lib.hid hfair
        have Hgs := Lib.hid hgs
        have Htk := Lib.hid htk
        clear hTr hfair hgs htk
        by_cases hlt : k < c
        · have hki : (k : Int) < (c : Int) := by omega
          have hnx : tk1 s.data.toList (tk1 s.data.toList ((mgot s.data.toList to Z (2 * k)).1, (mgot s.data.toList to Z (2 * k)).2) ⟨true, 0, k * 2⟩) ⟨true, 0, k * 2 + 1⟩ = mgot s.data.toList to Z (2 * (k + 1)) := by
            rw [show 2 * (k + 1) = 2 * k + 1 + 1 by omega, mgot_succ, mgot_succ, Nat.mul_comm k 2]
          have Hnx := Lib.hid hnx
          have ct := take_nums (k * 2) (k * 2 + 1) R (R + 1 + 2) (R + 1) (R + 1 + 1) L 63 s (mgot s.data.toList to Z (2 * k)).1 (mgot s.data.toList to Z (2 * k)).2 wr.drew hs Hfair.out (HTr.out.kept (Kept.refl wr).drew) h0 HFL.out ⟨Htk.out.1.first, Htk.out.1.text, Htk.out.1.at_⟩ Htk.out.2.1 (by rw [Hgs.out, HZ.out]; omega) (by rw [Hgs.out, HZ.out]; omega)
          have CT := Lib.hid ct
          clear hnx ct
          go_wp2_with fail
          go_region_held3 (fun _ => True) (trivial)
            (first
              | (go_at_call 132; refine (number_any _ _ _).mono ?_; rintro r w7 ⟨rfl, rfl⟩)
              | (go_at_call 134; refine CT.out.mono ?_; rintro r w8 ⟨rfl, t8⟩))
          have h8 : Took w9 (R + 1 + 2) (R + 1) (R + 1 + 1) L s 63 (mgot s.data.toList to Z (2 * (k + 1))) w8 := by
            rw [← Hnx.out]
            exact Htk.out.step ⟨t8.1, t8.2.1, (Kept.but (S := fun i => i = R + 1 + 2 ∨ i = R + 1 + 1 ∨ i = L) (Kept.refl wr).drew).trans t8.2.2 (fun _ _ h => h)⟩
          have H8 := Lib.hid h8
          clear t8 h8
          go_wp2
          go_roundw
          case rel =>
            (first
              | exact ⟨k + 1, by omega, by go_num, H8.out⟩
              | (repeat apply Exists.intro
                 refine ⟨?_, rfl⟩
                 exact ⟨k + 1, by omega, by go_num, H8.out⟩))
          case measure => simp [intOf]; omega
        · obtain rfl : k = c := by omega
          have ct := take_parts [] none R 0 (R + 1 + 2) (R + 1) (R + 1 + 1) L 63 s (mgot s.data.toList to Z (2 * k)).1 (mgot s.data.toList to Z (2 * k)).2 wr wr hs Hfair.out HTr.out (by simp) h0 HFL.out (Kept.refl wr) Htk.out.1 Htk.out.2.1 (.inl rfl) (by simp)
          have CT := Lib.hid ct
          clear ct
          go_wp2_with fail
          refine CT.out.mono ?_
          rintro r w10 ⟨rfl, t10⟩
          have h10 := Htk.out.step t10
          have etk : tk s.data.toList ((mgot s.data.toList to Z (2 * k)).1, (mgot s.data.toList to Z (2 * k)).2) [] = mgot s.data.toList to Z (2 * k) := rfl
          rw [etk] at h10 ⊢
          have hfst := mgot_fst s.data.toList to Z (2 * k)
          have hmk := mgot_marks s.data.toList to Z k L 63 w10 (by omega) HZ.out
          have hat := mgot_at s.data.toList to Z (2 * k) (by rw [HZ.out]; exact Nat.le_refl _)
          have hcut := Hcut.out
          rw [if_neg (by simp), if_neg hbig, ← hfst] at hcut
          have hfair := Hfair.out
          have kw10 : Kept w w10 := But.after K9.out h10.2.2 (fun i hi => by rw [← HR.out] at hi; rintro (h | h | h) <;> omega)
          have bL := h10.2.1
          obtain ⟨⟨⟨its, p, e⟩, arr⟩, hy⟩ : ∃ y, y = mgot s.data.toList to Z (2 * k) := ⟨_, rfl⟩
          rw [← hy] at hmk hat hcut hfair bL ⊢
          simp only at hmk hat hcut bL ⊢
          obtain ⟨q0, q1, q2⟩ := hfair
          simp only at q0 q1 q2
          have Hcut2 := Lib.hid hcut
          have KW10 := Lib.hid kw10
          clear hcut hy hfst etk h10 t10 kw10
          by_cases he : e = 0
          · subst he
            obtain ⟨ml, mk⟩ := hmk rfl bL
            have hp : 0 ≤ p := (hat rfl).2.1 (by omega)
            clear hmk hat bL
            obtain ⟨ms, hms⟩ : ∃ ms, ms = Ev.ofPairs its := ⟨_, rfl⟩
            rw [← hms] at ml mk Hcut2
            have cs := sorted_any (some ⟨L, 0, none⟩) k ms w10 mk
            rw [ml] at cs
            have CS := Lib.hid cs
            have ML := Lib.hid ml
            have MK := Lib.hid mk
            clear cs ml mk hms
            go_wp2_with fail
            refine CS.out.mono ?_
            rintro r w11 ⟨rfl, k11⟩
            have K11 := Lib.hid (KW10.out.trans k11)
            have MK11 := Lib.hid (MK.out.kept k11)
            by_cases hso : Ev.sorted ms = true
            · have HC : Hid (Ev.mcut s.data.toList a = (ms, p.toNat, 0)) := by show _ = _; rw [Hcut2.out, if_neg (by simp), if_pos hso]
              rw [hso]
              clear k11 hso
              go_wp2
              go_ret3
              refine ⟨some ⟨L, 0, none⟩, k, ?_, ?_, K11.out, .inr fun a ha => by cases ha; rw [← HR.out]; exact hRL⟩
              · rw [HC.out, ML.out]
                show Ending.returned (.tuple #[.slice (some ⟨L, 0, none⟩) k k, .int .i64 p, .int .i64 0]) = .returned (.tuple #[.slice (some ⟨L, 0, none⟩) k k, .int .i64 ((p.toNat : Nat) : Int), .int .i64 0])
                rw [Int.toNat_of_nonneg hp]
              · rw [HC.out]; exact MK11.out
            · have HC : Hid (Ev.mcut s.data.toList a = ([], 0, 4)) := by show _ = _; rw [Hcut2.out, if_neg (by simp), if_neg hso]
              rw [Bool.not_eq_true] at hso
              rw [hso]
              clear k11 hso
              go_wp2
              go_ret3
              exact cutNew_nil HC.out K11.out
          · have he2 : ((e : Int) == 0) = false := by simp only [beq_eq_false_iff_ne]; omega
            have he3 : ((e : Int) != 0) = true := by simp [bne, he2]
            have HC : Hid (Ev.mcut s.data.toList a = ([], 0, e)) := by show _ = _; rw [Hcut2.out, if_pos he]
            clear hmk hat bL
            go_wp2
            go_ret3
            exact cutNew_nil HC.out KW10.out
  · have he2 : ((er : Int) == 0) = false := by simp only [beq_eq_false_iff_ne]; omega
    have he3 : ((er : Int) != 0) = true := by simp [bne, he2]
    have HC : Hid (Ev.mcut s.data.toList a = ([], 0, er)) := by show _ = _; rw [Hcut.out, if_pos he]
    go_wp2
    go_ret3
    exact cutNew_nil HC.out KW8.out
theorem evcut_any (s : ByteArray) (a : Int) (w : World) (hs : s.size ≤ 140737488355328) (h1 : -9223372036854775808 ≤ a) (h2 : a ≤ 9223372036854775807) (hT : Tab w) :
    Calls Tryz.prog 128 #[.string s, .int .i64 a] w (CutRes w (Ev.mcut s.data.toList a)) := (evcut_new s a w hs h1 h2 hT).mono fun _ _ h => h.res
end Go.Proofs.YtlfmpoinjbmjoaaGreatDoor
