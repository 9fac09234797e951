/-
  What the closure takes of marks: one number behind the other, into one row.
-/
import Derived.Test.YtbenjenifklejaaDoorEgetw
import Derived.Test.YtbenjenifklejaaDoorEmark
namespace Go.Proofs.YtbenjenifklejaaDoor
open Go.ChangeShapes Go.WideShapes Go.ChangeAt Go.RowKit

/-- the parts of marks -/
def MP (n : Nat) : List Pt := (List.range n).map fun j => ⟨true, 0, j⟩
theorem MP_succ (n : Nat) : MP (n + 1) = MP n ++ [⟨true, 0, n⟩] := by simp [MP, List.range_succ]
def mgot (l : List UInt8) (a : Int) (Z : Array Value) (n : Nat) : (List Ev.It × Int × Nat) × Array Value := tk l (([], a, 0), Z) (MP n)
theorem mgot_succ (l : List UInt8) (a : Int) (Z : Array Value) (n : Nat) : mgot l a Z (n + 1) = tk1 l (mgot l a Z n) ⟨true, 0, n⟩ := by
  rw [mgot, MP_succ, tk, List.foldl_append]; rfl
theorem mgot_fst (l : List UInt8) (a : Int) (Z : Array Value) (n : Nat) : (mgot l a Z n).1 = Ev.igets (List.replicate n true) l a := by
  have h : (MP n).map Pt.kind = List.replicate n true := by
    rw [MP, List.map_map]
    apply List.ext_getElem
    · simp
    · intro i h1 h2; simp
  rw [mgot, tk_fst, h, Ev.igets]
theorem mgot_size (l : List UInt8) (a : Int) (Z : Array Value) (n : Nat) : (mgot l a Z n).2.size = Z.size := by rw [mgot, tk_size]
theorem mgot_fair (l : List UInt8) (hl : l.length ≤ 9223372036854775807) (a : Int) (h1 : -9223372036854775808 ≤ a) (h2 : a ≤ 9223372036854775807) (Z : Array Value) (n : Nat) : Fair (mgot l a Z n).1 := by
  rw [mgot, tk_fst]; exact fold_fair l hl _ _ ⟨h1, h2, Nat.zero_le _⟩
theorem mgot_at (l : List UInt8) (a : Int) (Z : Array Value) : ∀ n, n ≤ Z.size → (mgot l a Z n).1.2.2 = 0 →
    (mgot l a Z n).1.1.length = n ∧ (0 ≤ a → 0 ≤ (mgot l a Z n).1.2.1) ∧ ∀ j, j < n → ∃ k, (mgot l a Z n).1.1[j]? = some (.n k) ∧ (mgot l a Z n).2[j]? = some (.int .i64 (Ev.clip k))
  | 0, _, _ => ⟨rfl, fun h => h, fun j hj => by omega⟩
  | n + 1, hn, h => by
    have hz := mgot_size l a Z n
    rw [mgot_succ] at h ⊢
    obtain ⟨h0, e1, e2⟩ := tk1_ok l _ _ h
    obtain ⟨r1, r2, r3⟩ := mgot_at l a Z n (by omega) h0
    have e3 : (tk1 l (mgot l a Z n) ⟨true, 0, n⟩).1 = Ev.istep l (mgot l a Z n).1 true := by unfold tk1; rw [if_pos h0]
    refine ⟨by rw [e1, List.length_append, r1]; rfl, fun ha => ?_, fun j hj => ?_⟩
    · rw [e3, Ev.istep_keeps l _ true h0]
      exact Int.natCast_nonneg _
    · rw [e1, e2]
      by_cases hjn : j = n
      · subst hjn
        refine ⟨(vget l (mgot l a Z j).1.2.1).1, ?_, ?_⟩
        · rw [List.getElem?_append_right (by omega), r1, Nat.sub_self]; rfl
        · rw [Array.getElem?_setIfInBounds, if_pos rfl, if_pos (by simp only; omega)]; rfl
      · obtain ⟨k, k1, k2⟩ := r3 j (by omega)
        refine ⟨k, ?_, ?_⟩
        · rw [List.getElem?_append_left (by omega)]; exact k1
        · rw [Array.getElem?_setIfInBounds, if_neg (by simp only; omega)]; exact k2
theorem ofPairs_at : ∀ (n : Nat) (xs : List Ev.It), xs.length = 2 * n → (∀ j, j < 2 * n → ∃ k, xs[j]? = some (.n k)) → (Ev.ofPairs xs).length = n ∧
    ∀ i, i < n → ∃ p q, xs[2 * i]? = some (.n p) ∧ xs[2 * i + 1]? = some (.n q) ∧ (Ev.ofPairs xs)[i]? = some ⟨Ev.clip p, Ev.clip q⟩
  | 0, xs, h, _ => by
    have : xs = [] := List.eq_nil_of_length_eq_zero (by omega)
    subst this
    exact ⟨rfl, fun i hi => by omega⟩
  | n + 1, xs, h, hx => by
    obtain ⟨p, hp⟩ := hx 0 (by omega)
    obtain ⟨q, hq⟩ := hx 1 (by omega)
    match xs, h, hp, hq with
    | x :: y :: r, h, hp, hq =>
      simp only [List.getElem?_cons_zero, List.getElem?_cons_succ, Option.some.injEq] at hp hq
      subst hp hq
      obtain ⟨r1, r2⟩ := ofPairs_at n r (by simp only [List.length_cons] at h; omega) (fun j hj => by
        obtain ⟨k, hk⟩ := hx (j + 2) (by omega)
        exact ⟨k, by simpa using hk⟩)
      refine ⟨by simp [Ev.ofPairs, r1], fun i hi => ?_⟩
      cases i with
      | zero => exact ⟨p, q, rfl, rfl, rfl⟩
      | succ i =>
        obtain ⟨p', q', a1, a2, a3⟩ := r2 i (by omega)
        refine ⟨p', q', ?_, ?_, ?_⟩
        · rw [show 2 * (i + 1) = 2 * i + 1 + 1 by omega, List.getElem?_cons_succ, List.getElem?_cons_succ]; exact a1
        · rw [show 2 * (i + 1) + 1 = 2 * i + 1 + 1 + 1 by omega, List.getElem?_cons_succ, List.getElem?_cons_succ]; exact a2
        · simpa [Ev.ofPairs] using a3
/-- what was taken is a row of marks -/
theorem mgot_marks (l : List UInt8) (a : Int) (Z : Array Value) (n L : Nat) (t : TypeId) (w : World) (hn : n ≤ 32) (hZ : Z.size = 2 * n) (h : (mgot l a Z (2 * n)).1.2.2 = 0) (hb : Blk w L (mgot l a Z (2 * n)).2 t) :
    (Ev.ofPairs (mgot l a Z (2 * n)).1.1).length = n ∧ MkS w (some ⟨L, 0, none⟩) n (Ev.ofPairs (mgot l a Z (2 * n)).1.1) := by
  obtain ⟨r1, _, r3⟩ := mgot_at l a Z (2 * n) (by omega) h
  obtain ⟨o1, o2⟩ := ofPairs_at n _ r1 (fun j hj => let ⟨k, k1, _⟩ := r3 j hj; ⟨k, k1⟩)
  have hc : ∀ x, Ev.clip x ≤ 1099511627777 := fun x => by unfold Ev.clip; omega
  refine ⟨o1, by omega, by omega, fun m hm => ?_, .inr ⟨L, 0, rfl, hb.lt, fun i m hm => ?_⟩⟩
  · obtain ⟨i, hi⟩ := List.getElem?_of_mem hm
    have hin : i < n := by
      rcases Nat.lt_or_ge i n with h | h
      · exact h
      · rw [List.getElem?_eq_none (by omega)] at hi; cases hi
    obtain ⟨p, q, _, _, e⟩ := o2 i hin
    rw [hi] at e
    cases e
    have := hc p
    have := hc q
    unfold mfit
    simp only
    omega
  · have hin : i < n := by
      rcases Nat.lt_or_ge i n with h | h
      · exact h
      · rw [List.getElem?_eq_none (by omega)] at hm; cases hm
    obtain ⟨p, q, e1, e2, e⟩ := o2 i hin
    rw [hm] at e
    cases e
    obtain ⟨p', p1, p2⟩ := r3 (2 * i) (by omega)
    obtain ⟨q', q1, q2⟩ := r3 (2 * i + 1) (by omega)
    rw [e1] at p1
    rw [e2] at q1
    cases p1
    cases q1
    simp only [Nat.zero_add]
    rw [hb.cell, hb.cell, Nat.mul_comm i 2, p2, q2]
    exact ⟨rfl, rfl⟩

theorem infoMark : (Tryd.prog.info? 59).map (fun i => (i.zero, i.size, i.bytes)) = some (some (.agg #[.int .i64 0, .int .i64 0]), 2, 16) := by kernel_rfl
theorem make_marks (k : Nat) (hk : k ≤ 32) : ∃ Z : Array Value, Z.size = 2 * k ∧ ∀ W : World, (Instr.makeSlice 34 (.int .i64 (k : Int)) (.int .i64 (k : Int))).run Tryd.prog W = .ok (.slice (some ⟨W.heap.size, 0, none⟩) k k) (W.alloc (.cells Z 59)) := by
  obtain ⟨i0, hi, hz0, hz1, hz2⟩ := info_parts infoMark
  refine ⟨madeCells (Value.agg #[.int .i64 0, .int .i64 0]).cells (k * 2), by simp [madeCells, Nat.mul_comm], fun W => ?_⟩
  rw [run_make (P := Tryd.prog) W 34 59 i0 (.agg #[.int .i64 0, .int .i64 0]) Tryd.underlying34 hi hz0 .i64 .i64 (k : Int) (k : Int) (by omega) (by omega) (by rw [hz2]; omega) (by omega)]
  rw [hz1, Int.toNat_natCast]

theorem take_nums (o1 o2 n f sb ab g : Nat) (t : TypeId) (s : ByteArray) (st : List Ev.It × Int × Nat) (arr : Array Value) (wr : World) (hs : s.size ≤ 140737488355328) (hst : Fair st) (hT : Tab wr) (h0 : 0 < n)
    (hfar : Far n f sb ab g) (htk : Tk wr f sb ab s st) (hg : Blk wr g arr t) (ho1 : o1 < arr.size) (ho2 : o2 < arr.size) :
    Calls Tryd.prog 61 #[.slice (some ⟨wr.heap.size + 1 + 1, 0, none⟩) 2 2, .pointer (some ⟨f, 0, none⟩), .pointer (some ⟨sb, 0, none⟩), .pointer (some ⟨ab, 0, none⟩)]
      (((wr.alloc (.cells #[.pointer (some ⟨g, o1, none⟩)] 48)).alloc (.cells #[.pointer (some ⟨g, o2, none⟩)] 48)).alloc (.cells #[.func (.func 62) #[] #[.pointer (some ⟨wr.heap.size, 0, none⟩)], .func (.func 62) #[] #[.pointer (some ⟨wr.heap.size + 1, 0, none⟩)]] 64)) fun e w' =>
      e = .returned (.tuple #[.int .i64 (tk1 s.data.toList (tk1 s.data.toList (st, arr) ⟨true, 0, o1⟩) ⟨true, 0, o2⟩).1.2.1, .int .i64 (tk1 s.data.toList (tk1 s.data.toList (st, arr) ⟨true, 0, o1⟩) ⟨true, 0, o2⟩).1.2.2]) ∧
        Took wr f sb ab g s t (tk1 s.data.toList (tk1 s.data.toList (st, arr) ⟨true, 0, o1⟩) ⟨true, 0, o2⟩) w' := by
  have b1 := Blk.made ((wr.alloc (.cells #[.pointer (some ⟨g, o1, none⟩)] 48)).alloc (.cells #[.pointer (some ⟨g, o2, none⟩)] 48)) #[.func (.func 62) #[] #[.pointer (some ⟨wr.heap.size, 0, none⟩)], .func (.func 62) #[] #[.pointer (some ⟨wr.heap.size + 1, 0, none⟩)]] 64
  have b2 := ((Blk.made wr #[.pointer (some ⟨g, o1, none⟩)] 48).alloc (.cells #[.pointer (some ⟨g, o2, none⟩)] 48)).alloc (.cells #[.func (.func 62) #[] #[.pointer (some ⟨wr.heap.size, 0, none⟩)], .func (.func 62) #[] #[.pointer (some ⟨wr.heap.size + 1, 0, none⟩)]] 64)
  have b3 := (Blk.made (wr.alloc (.cells #[.pointer (some ⟨g, o1, none⟩)] 48)) #[.pointer (some ⟨g, o2, none⟩)] 48).alloc (.cells #[.func (.func 62) #[] #[.pointer (some ⟨wr.heap.size, 0, none⟩)], .func (.func 62) #[] #[.pointer (some ⟨wr.heap.size + 1, 0, none⟩)]] 64)
  rw [World.size_alloc, World.size_alloc] at b1
  rw [World.size_alloc] at b3
  have kk : Kept wr (((wr.alloc (.cells #[.pointer (some ⟨g, o1, none⟩)] 48)).alloc (.cells #[.pointer (some ⟨g, o2, none⟩)] 48)).alloc (.cells #[.func (.func 62) #[] #[.pointer (some ⟨wr.heap.size, 0, none⟩)], .func (.func 62) #[] #[.pointer (some ⟨wr.heap.size + 1, 0, none⟩)]] 64)) := Kept.alloc (Kept.alloc (Kept.alloc (Kept.refl wr) _) _) _
  refine take_parts [⟨true, wr.heap.size, o1⟩, ⟨true, wr.heap.size + 1, o2⟩] _ n (wr.heap.size + 1 + 1) f sb ab g t s st arr wr _ hs hst (hT.kept kk) (by simp) h0 hfar kk htk hg (.inr ⟨rfl, by omega, _, b1⟩) ?_
  intro p hp
  simp only [List.mem_cons, List.not_mem_nil, or_false] at hp
  rcases hp with rfl | rfl
  · exact ⟨Nat.le_refl _, ho1, _, b2⟩
  · exact ⟨Nat.le_succ _, ho2, _, b3⟩
end Go.Proofs.YtbenjenifklejaaDoor
