/-
  The document's own: the walk of rivuletref06.nums.
-/
import Derived.Test.YtbenjenifklejaaDoorEref4
import Derived.Test.YtbenjenifklejaaDoorEcutw
import Derived.Test.YtbenjenifklejaaDoorVref4
import Derived.Deep.AppendLies
import Derived.RangeFuncBox
namespace Go.Proofs.YtbenjenifklejaaDoor
open Go.ChangeShapes Go.WideShapes Go.ChangeAt Go.RowKit

/-- rows of numbers of the call's own -/
def OwnNs (w : World) (base : Nat) (v : Value) (xs : List Nat) : Prop := w.ownsRow base 3 1 v xs.length (xs.map fun x => Value.int .i64 (Ev.clip x))
theorem infoInt : (Tryd.prog.info? 3).map (fun i => (i.zero, i.size, i.bytes)) = some (some (.int .i64 0), 1, 8) := by kernel_rfl

/-- the numbers that things are -/
def numsOf : List Ev.It → List Nat
  | [] => []
  | .n k :: r => k :: numsOf r
  | .t _ :: r => 0 :: numsOf r
theorem numsOf_snoc : ∀ (xs : List Ev.It) (k : Nat), numsOf (xs ++ [.n k]) = numsOf xs ++ [k]
  | [], _ => rfl
  | .n _ :: r, k => by simp [numsOf, numsOf_snoc r k]
  | .t _ :: r, k => by simp [numsOf, numsOf_snoc r k]
theorem numsOf_length : ∀ xs : List Ev.It, (numsOf xs).length = xs.length
  | [] => rfl
  | .n _ :: r => by simp [numsOf, numsOf_length r]
  | .t _ :: r => by simp [numsOf, numsOf_length r]

/-- what nums answers -/
def NumRes (w : World) (x : List Ev.It × Int × Nat) (r : Ending) (w' : World) : Prop :=
  if x.2.2 = 0 then ∃ v, r = .returned (.tuple #[v, .int .i64 x.2.1, .int .i64 0]) ∧ OwnNs w' w.heap.size v (numsOf x.1) ∧ Kept w w'
  else r = .returned (.tuple #[.slice none 0 0, .int .i64 0, .int .i64 x.2.2]) ∧ Kept w w'

theorem rep_snoc (k : Nat) : List.replicate (k + 1) true = List.replicate k true ++ [true] := List.replicate_succ'
theorem igets_rep (l : List UInt8) (a : Int) (k : Nat) : Ev.igets (List.replicate (k + 1) true) l a = Ev.istep l (Ev.igets (List.replicate k true) l a) true := by rw [rep_snoc, Ev.igets_snoc]
theorem igets_over (l : List UInt8) (a : Int) (k m : Nat) (hk : k ≤ m) (h : (Ev.igets (List.replicate k true) l a).2.2 ≠ 0) : Ev.igets (List.replicate m true) l a = Ev.igets (List.replicate k true) l a := by
  rw [show m = k + (m - k) by omega, ← List.replicate_append_replicate]
  exact Ev.igets_more _ _ l a h
theorem igets_len (l : List UInt8) (a : Int) : ∀ k, (Ev.igets (List.replicate k true) l a).2.2 = 0 → (Ev.igets (List.replicate k true) l a).1.length = k
  | 0, _ => rfl
  | k + 1, h => by
    rw [igets_rep] at h ⊢
    obtain ⟨h0, _, e⟩ := Ev.istep_list l _ true h
    rw [e, List.length_append, igets_len l a k h0]
    rfl

theorem own_ints (w : World) : OwnNs (w.alloc (.cells #[] 3)) w.heap.size (.slice (some ⟨w.heap.size, 0, none⟩) 0 0) [] :=
  ⟨rfl, .inr ⟨w.heap.size, 0, #[], rfl, Nat.le_refl _, heap_alloc_new w _, Nat.le_refl _, Nat.zero_le _, rfl, rfl⟩⟩
theorem int_cell (w : World) (x : Int) : ∀ (j : Nat) (u : Value), [Value.int .i64 x][j]? = some u → (w.alloc (.cells #[.int .i64 x] 3)).cell? ((⟨w.heap.size, 0, none⟩ : Addr).add j) = some u := by
  intro j u hj
  match j, hj with
  | 0, hj => simp at hj; subst hj; simp [Addr.add]
theorem int_one (x : Int) : ∀ u ∈ [Value.int .i64 x], u.oneCell' = true := by
  intro u hu; simp at hu; subst hu; rfl

set_option maxHeartbeats 2000000 in
set_option maxRecDepth 100000 in
theorem nums_any (s : ByteArray) (a : Int) (m : Nat) (w : World) (hs : s.size ≤ 1000) (h1 : -9223372036854775808 ≤ a) (h2 : a ≤ 9223372036854775807) (hm : m ≤ 64) :
    Calls Tryd.prog 47 #[.string s, .int .i64 a, .int .i64 m] w (NumRes w (Ev.igets (List.replicate m true) s.data.toList a)) := by
  obtain ⟨i0, hi, hz0, hz1, hz2⟩ := info_parts infoInt
  have Hi := Lib.hid hi
  have Hz0 := Lib.hid hz0
  have Hz1 := Lib.hid hz1
  have Hz2 := Lib.hid hz2
  have Hsl := Lib.hid (size_len s)
  clear hi hz0 hz1 hz2
  go_enter Tryd.func47, Tryd.ntmps47
  go_wp2
  go_loopw [1, 9, 10, 11, 12, 13] (fun av ov iv _ _ _ wr => ∃ (k : Nat) (its : List Ev.It) (at_ : Int), k ≤ m ∧ av = .int .i64 at_ ∧ iv = .int .i64 k ∧ Hid (Ev.igets (List.replicate k true) s.data.toList a = (its, at_, 0)) ∧ OwnNs wr w.heap.size ov (numsOf its) ∧ Kept w wr) (fun _ _ iv _ _ _ _ => m - (intOf iv).toNat)
  case atStart => exact ⟨0, [], a, by omega, rfl, rfl, rfl, own_ints w, Kept.alloc (Kept.refl w) _⟩
  case round =>
    obtain ⟨k, its, at_, hk, rfl, rfl, HG, hown, kr⟩ := hrel
    have hlen := igets_len s.data.toList a k (by rw [HG.out])
    rw [HG.out] at hlen
    simp only at hlen
    have hnl := numsOf_length its
    rw [hlen] at hnl
    have hfair : Fair (Ev.igets (List.replicate k true) s.data.toList a) := fold_fair _ (by rw [Hsl.out]; omega) _ _ ⟨h1, h2, Nat.zero_le _⟩
    rw [HG.out] at hfair
    obtain ⟨q0, q1, _⟩ := hfair
    simp only at q0 q1
    have Hlen := Lib.hid hnl
    clear hlen hnl
    by_cases hlt : k < m
    · have hki : (k : Int) < (m : Int) := by omega
      have hst := igets_rep s.data.toList a k
      rw [HG.out] at hst
      have hle := vget_le s.data.toList at_
      obtain ⟨⟨n, t, e⟩, hv⟩ : ∃ x, x = vget s.data.toList at_ := ⟨_, rfl⟩
      rw [← hv, Hsl.out] at hle
      obtain ⟨l1, l2, l3⟩ := hle
      simp only at l1 l2 l3
      have Hst := Lib.hid hst
      have Hv := Lib.hid hv
      have HO := Lib.hid hown
      clear hst hv hown
      go_wp2_with fail
      refine (refget_any s at_ _ hs q0 q1).mono ?_
      rintro r w1 ⟨rfl, k1⟩
      rw [← Hv.out]
      unfold tup
      have kr1 := kr.trans k1
      have hown1 := own_kept HO.out k1
      rw [Hlen.out] at hown1
      simp only
      clear k1 kr
      by_cases he : e = 0
      · subst he
        have HNx : Hid (Ev.igets (List.replicate (k + 1) true) s.data.toList a = (its ++ [.n n], (t : Int), 0)) := by
          show _ = _
          rw [Hst.out, Ev.istep_ok _ _ _ _ (.n n) t (by rw [Ev.iget_n, ← Hv.out])]
        by_cases hbig : 1099511627776 < n
        · have Hcl : Hid ((Ev.clip n : Int) = 1099511627777) := by show _ = _; unfold Ev.clip; omega
          go_wp2_with (first
            | (at_builtin; refine wpList_append_own _ rfl _ _ 68 rfl w.heap.size 3 i0 (.int .i64 0) 1 8 Tryd.underlying68 Hi.out Hz0.out Hz1.out Hz2.out rfl (by decide) _ _ _ rfl (World.ownsRow.alloc hown1 _) ⟨w1.heap.size, 0, none⟩ 1 1 [.int .i64 (1099511627777)] rfl rfl (int_cell _ _) (int_one _) (by unfold maxLen; omega) (by omega) (by have := kr1.size; simp; omega) ?_))
          intro v' w3 hown3 hgrow _
          have kr3 : Kept w w3 := kept_grown (kr1.alloc _) hgrow (fun k hk => (World.ownsRow.lt hown1 k hk).1)
          have hown4 : OwnNs w3 w.heap.size v' (numsOf (its ++ [.n n])) := by
            rw [numsOf_snoc]
            unfold OwnNs
            rw [List.length_append, List.length_singleton, List.map_append, List.map_singleton, Hlen.out, Hcl.out]
            exact hown3
          clear hown3 hgrow hown1
          go_wp2
          go_roundw
          case rel => exact ⟨k + 1, its ++ [.n n], t, by omega, by go_num, by go_num, HNx, hown4, kr3⟩
          case measure => simp [intOf]; omega
        · have Hcl : Hid ((Ev.clip n : Int) = n) := by show _ = _; unfold Ev.clip; omega
          go_wp2_with (first
            | (at_builtin; refine wpList_append_own _ rfl _ _ 68 rfl w.heap.size 3 i0 (.int .i64 0) 1 8 Tryd.underlying68 Hi.out Hz0.out Hz1.out Hz2.out rfl (by decide) _ _ _ rfl (World.ownsRow.alloc hown1 _) ⟨w1.heap.size, 0, none⟩ 1 1 [.int .i64 (n)] rfl rfl (int_cell _ _) (int_one _) (by unfold maxLen; omega) (by omega) (by have := kr1.size; simp; omega) ?_))
          intro v' w3 hown3 hgrow _
          have kr3 : Kept w w3 := kept_grown (kr1.alloc _) hgrow (fun k hk => (World.ownsRow.lt hown1 k hk).1)
          have hown4 : OwnNs w3 w.heap.size v' (numsOf (its ++ [.n n])) := by
            rw [numsOf_snoc]
            unfold OwnNs
            rw [List.length_append, List.length_singleton, List.map_append, List.map_singleton, Hlen.out, Hcl.out]
            exact hown3
          clear hown3 hgrow hown1
          go_wp2
          go_roundw
          case rel => exact ⟨k + 1, its ++ [.n n], t, by omega, by go_num, by go_num, HNx, hown4, kr3⟩
          case measure => simp [intOf]; omega
      · have he2 : ((e : Int) == 0) = false := by simp only [beq_eq_false_iff_ne]; omega
        have he3 : ((e : Int) != 0) = true := by simp [bne, he2]
        have HE : Hid (Ev.igets (List.replicate m true) s.data.toList a = ([], 0, e)) := by
          show _ = _
          have h1 : Ev.igets (List.replicate (k + 1) true) s.data.toList a = ([], 0, e) := by
            rw [Hst.out, Ev.istep, if_pos rfl, Ev.iget_n, ← Hv.out, if_neg he]
          rw [igets_over _ _ (k + 1) m (by omega) (by rw [h1]; exact he), h1]
        clear hown1
        go_wp2
        go_ret3
        unfold NumRes
        rw [HE.out, if_neg he]
        exact ⟨rfl, kr1⟩
    · obtain rfl : k = m := by omega
      have HO := Lib.hid hown
      clear hown
      go_wp2
      go_ret3
      unfold NumRes
      rw [HG.out, if_pos rfl]
      exact ⟨_, rfl, HO.out, kr⟩
end Go.Proofs.YtbenjenifklejaaDoor
