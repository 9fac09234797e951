/-
  The iterator over the levels of two texts side by side.
-/
import Derived.Test.YtlpkeimcklhdbaaTright
namespace Go.Proofs.Ytlpkeimcklhdbaa
open Go.ChangeShapes Go.WideShapes Go.ChangeAt Go.RowKit Go.Shelf

attribute [local go_sem] Oper.semAt_some

set_option maxHeartbeats 1000000 in
theorem pairs_in (n : Nat) (a b : ByteArray) (w : World) :
    CallsIn Fence.wide n Try.prog 47 #[.string a, .string b] w fun e w' => e = .returned (.func (.func 58) #[] #[.pointer (some ⟨w.heap.size, 0, none⟩), .pointer (some ⟨w.heap.size + 1, 0, none⟩)]) ∧ w' = (w.alloc (.cells #[.string a] 9)).alloc (.cells #[.string b] 9) := by
  refine callsIn_of_wp Try.func47 rfl trivial ?_ rfl
  simp only [Try.ntmps47, List.size_toArray, List.length_cons, List.length_nil, Nat.reduceAdd, Nat.reduceSub, Array.replicate_succ, Array.replicate_zero, List.push_toArray, List.append_toArray, List.nil_append, List.cons_append]
  gi_wp2
  go_ret
  exact ⟨rfl, rfl⟩

namespace Tp
/-- the levels of two texts side by side -/
def prs : List L → List L → List (L × L × Bool × Bool)
  | [], [] => []
  | x :: a, [] => (x, [], true, false) :: prs a []
  | [], y :: b => ([], y, false, true) :: prs [] b
  | x :: a, y :: b => (x, y, true, true) :: prs a b
/-- what is left of a text's levels -/
def rest (p : L) (m : Bool) : List L := if m then lev p else []
def mu (p : L) (m : Bool) : Nat := if m then p.length + 1 else 0
theorem rest_true (p : L) : rest p true = (cut p).1 :: rest (cut p).2.1 (cut p).2.2 := by
  unfold rest; rw [if_pos rfl, lev_by_cut]; split <;> rfl
theorem mu_true (p : L) : mu (cut p).2.1 (cut p).2.2 < mu p true := by
  unfold mu
  split
  · rename_i h; have := cut_left p h; simp; omega
  · simp
theorem mu_false : mu (cut []).2.1 (cut []).2.2 = 0 := rfl
theorem prs_step (p q : L) (m k : Bool) (hm : m = false → p = []) (hk : k = false → q = []) (h : (m || k) = true) :
    prs (rest p m) (rest q k) = ((cut p).1, (cut q).1, m, k) :: prs (rest (cut p).2.1 (cut p).2.2) (rest (cut q).2.1 (cut q).2.2) := by
  cases m with
  | true =>
    cases k with
    | true => rw [rest_true, rest_true, prs]
    | false => rw [hk rfl, rest_true]; exact prs.eq_2 ..
  | false =>
    cases k with
    | true => rw [hm rfl, rest_true]; exact prs.eq_3 ..
    | false => cases h
theorem mu_step (p q : L) (m k : Bool) (hm : m = false → p = []) (hk : k = false → q = []) (h : (m || k) = true) :
    mu (cut p).2.1 (cut p).2.2 + mu (cut q).2.1 (cut q).2.2 < mu p m + mu q k := by
  cases m with
  | true =>
    have := mu_true p
    cases k with
    | true => have := mu_true q; omega
    | false => rw [hk rfl, mu_false]; simp [mu] at *; omega
  | false =>
    rw [hm rfl, mu_false]
    cases k with
    | true => have := mu_true q; simp [mu] at *; omega
    | false => cases h
end Tp

/-- two levels at the same place -/
structure PV where
  a : ByteArray
  b : ByteArray
  ha : Bool
  hb : Bool
def PV.val (p : PV) : Value := .agg #[.string p.a, .string p.b, .bool p.ha, .bool p.hb]
def PV.dat (p : PV) : Tp.L × Tp.L × Bool × Bool := (p.a.data.toList, p.b.data.toList, p.ha, p.hb)
def dats (xs : List PV) := xs.map PV.dat
theorem dats_snoc (pre : List PV) (x : PV) : dats (pre ++ [x]) = dats pre ++ [x.dat] := by simp [dats]

/-- how far the pairs have come -/
structure PTo (s t : Tp.L) (pre : List (Tp.L × Tp.L × Bool × Bool)) (p q : Tp.L) (m k : Bool) : Prop where
  lp : p.length ≤ s.length
  lq : q.length ≤ t.length
  zp : m = false → p = []
  zq : k = false → q = []
  cnt : pre.length + (Tp.mu p m + Tp.mu q k) ≤ s.length + t.length + 2
  eq : Tp.prs (Tp.lev s) (Tp.lev t) = pre ++ Tp.prs (Tp.rest p m) (Tp.rest q k)
theorem PTo.start (s t : Tp.L) : PTo s t [] s t true true := ⟨Nat.le_refl _, Nat.le_refl _, fun h => (by cases h), fun h => (by cases h), by simp [Tp.mu]; omega, rfl⟩
theorem PTo.pre {s t : Tp.L} {pre : List (Tp.L × Tp.L × Bool × Bool)} {p q : Tp.L} {m k : Bool} (h : PTo s t pre p q m k) : pre <+: Tp.prs (Tp.lev s) (Tp.lev t) := ⟨_, h.eq.symm⟩
theorem PTo.done_ {s t : Tp.L} {pre : List (Tp.L × Tp.L × Bool × Bool)} {p q : Tp.L} (h : PTo s t pre p q false false) : pre = Tp.prs (Tp.lev s) (Tp.lev t) := by
  rw [h.eq, show Tp.prs (Tp.rest p false) (Tp.rest q false) = [] by simp [Tp.rest, Tp.prs], List.append_nil]
theorem PTo.next {s t : Tp.L} {pre : List (Tp.L × Tp.L × Bool × Bool)} {p q : ByteArray} {m k : Bool} (h : PTo s t pre p.data.toList q.data.toList m k) (hmk : (m || k) = true)
    {a b p' q' : ByteArray} {m' k' : Bool} (hc1 : Tp.cut p.data.toList = (a.data.toList, p'.data.toList, m')) (hc2 : Tp.cut q.data.toList = (b.data.toList, q'.data.toList, k')) :
    PTo s t (pre ++ [(PV.mk a b m k).dat]) p'.data.toList q'.data.toList m' k' ∧ Tp.mu p'.data.toList m' + Tp.mu q'.data.toList k' < Tp.mu p.data.toList m + Tp.mu q.data.toList k := by
  have e := Tp.prs_step _ _ m k h.zp h.zq hmk
  have u := Tp.mu_step _ _ m k h.zp h.zq hmk
  have l1 := (Tp.cut_le p.data.toList).2
  have l2 := (Tp.cut_le q.data.toList).2
  have n1 := Tp.cut_none_left p.data.toList
  have n2 := Tp.cut_none_left q.data.toList
  rw [hc1] at e u l1 n1
  rw [hc2] at e u l2 n2
  have c := h.cnt
  have lp := h.lp
  have lq := h.lq
  simp only at e u l1 l2 n1 n2
  refine ⟨⟨by omega, by omega, n1, n2, by rw [List.length_append, List.length_singleton]; omega, ?_⟩, u⟩
  rw [h.eq, e, List.append_assoc]
  rfl
def muOf : Value → Value → Nat
  | .string p, .bool m => Tp.mu p.data.toList m
  | _, _ => 0
theorem muOf_mk (p : ByteArray) (m : Bool) : muOf (.string p) (.bool m) = Tp.mu p.data.toList m := rfl

set_option maxRecDepth 100000 in
set_option maxHeartbeats 2000000 in
theorem pairs1_in (n : Nat) (hn : 1 ≤ n) (l B C : Nat) (s t : ByteArray) (hs : s.size ≤ 281474976710656) (ht : t.size ≤ 281474976710656) (J Jx : List PV → World → Prop) (W : World) (hJ : AbidesFrom W.heap.size J)
    (hY : ∀ pre x W1, J pre W1 → pre.length < s.size + t.size + 2 → YieldAt Fence.wide (n - 1) Try.prog l #[.agg #[.string x.a, .string x.b, .bool x.ha, .bool x.hb]] W1 fun e W' =>
      (e = .returned (.bool true) ∧ J (pre ++ [x]) W' ∧ True) ∨ (e = .returned (.bool false) ∧ Jx (pre ++ [x]) W'))
    (hB : W.cell? ⟨B, 0, none⟩ = some (.string s)) (hC : W.cell? ⟨C, 0, none⟩ = some (.string t)) (h0 : J [] W) :
    CallsIn Fence.wide n Try.prog 58 #[.func (.yield l) #[] #[], .pointer (some ⟨B, 0, none⟩), .pointer (some ⟨C, 0, none⟩)] W fun e W' => (∃ v, e = .returned v) ∧
      ((∃ xs, dats xs = Tp.prs (Tp.lev s.data.toList) (Tp.lev t.data.toList) ∧ J xs W') ∨ (∃ pre, dats pre <+: Tp.prs (Tp.lev s.data.toList) (Tp.lev t.data.toList) ∧ Jx pre W')) := by
  refine callsIn_of_wp Try.func58 rfl trivial ?_ rfl
  simp only [Try.ntmps58, List.size_toArray, List.length_cons, List.length_nil, Nat.reduceAdd, Nat.reduceSub, Array.replicate_succ, Array.replicate_zero, List.push_toArray, List.append_toArray, List.nil_append, List.cons_append]
  have hmx : Try.prog.follows .mixedOrders = true := by kernel_rfl
  gi_wp2
  gi_region_o
  clear hmx
  gi_wp2
  gi_loopw [4, 5, 6, 7] (fun l1 l2 m1 m2 wr => ∃ (pre : List PV) (p q : ByteArray) (m k : Bool), l1 = .string p ∧ l2 = .string q ∧ m1 = .bool m ∧ m2 = .bool k ∧ PTo s.data.toList t.data.toList (dats pre) p.data.toList q.data.toList m k ∧ J pre wr) (fun l1 l2 m1 m2 _ => muOf l1 m1 + muOf l2 m2)
  case atStart => exact ⟨[], s, t, true, true, rfl, rfl, rfl, rfl, PTo.start _ _, abides_kept hJ h0 (kept_drewN (Kept.refl W) 1)⟩
  case round =>
    obtain ⟨pre, p, q, m, k, rfl, rfl, rfl, rfl, hto, hJs⟩ := hrel
    have hlen : (m || k) = true → pre.length < s.size + t.size + 2 := fun h => by
      have := hto.cnt
      have h2 := Tp.mu_step _ _ m k hto.zp hto.zq h
      rw [str_size, str_size] at this; simp [dats] at this; omega
    have hp : p.size ≤ s.size := by have := hto.lp; rw [str_size, str_size] at this; exact this
    have hq : q.size ≤ t.size := by have := hto.lq; rw [str_size, str_size] at this; exact this
    have HT := Lib.hid hto
    clear hto
    cases m with
    | false =>
      cases k with
      | false =>
        clear hlen
        gi_wp2
        go_end0
        exact ⟨⟨_, rfl⟩, .inl ⟨pre, HT.out.done_, hJs⟩⟩
      | true =>
        replace hlen := hlen rfl
        gi_wp2_with fail
        refine ⟨trivial, ?_⟩
        refine (callsIn_wide.2 (cut_any p _ (by omega))).mono ?_
        rintro e w' ⟨a1, b1, m1, rfl, hc1, i1, rfl⟩
        have Hc1 := Lib.hid hc1
        clear hc1
        gi_wp2_with fail
        refine ⟨trivial, ?_⟩
        refine (callsIn_wide.2 (cut_any q _ (by omega))).mono ?_
        rintro e w' ⟨a2, b2, m2, rfl, hc2, i2, rfl⟩
        have hto2 := PTo.next HT.out (by simp) (a := a1) (b := a2) (p' := b1) (q' := b2) (m' := m1) (k' := m2) Hc1.out hc2
        have HT2 := Lib.hid hto2
        clear hc2 hto2
        have hK5 : Kept wr (((((wr.alloc (.cells #[.string ⟨#[]⟩, .string ⟨#[]⟩, .bool false, .bool true] 49)).drewN i1).setCell ⟨wr.heap.size, 0, none⟩ (.string a1)).drewN i2).setCell ⟨wr.heap.size, 1, none⟩ (.string a2)) :=
          Below.setCell (p := ⟨wr.heap.size, 1, none⟩) (kept_drewN (Below.setCell (p := ⟨wr.heap.size, 0, none⟩) (kept_drewN (Kept.alloc (Kept.refl wr) _) i1) (Nat.le_refl _) _) i2) (Nat.le_refl _) _
        obtain ⟨fn, tmps, assign, body, hy, hR⟩ := hY pre ⟨a1, a2, false, true⟩ _ (abides_kept hJ hJs hK5) hlen
        gi_wp2
        refine hR.mono ?_
        rintro e W3 (⟨rfl, hJ3, _⟩ | ⟨rfl, hJx3⟩)
        · gi_wp2
          go_roundw
          case rel => exact ⟨pre ++ [⟨a1, a2, false, true⟩], b1, b2, m1, m2, rfl, rfl, rfl, rfl, by rw [dats_snoc]; exact HT2.out.1, hJ3⟩
          case measure => exact HT2.out.2
        · gi_wp2
          refine bodyPost_ret (results_none rfl _ _ _) rfl ?_
          exact ⟨⟨_, rfl⟩, .inr ⟨pre ++ [⟨a1, a2, false, true⟩], by rw [dats_snoc]; exact HT2.out.1.pre, hJx3⟩⟩
    | true =>
      replace hlen := hlen rfl
      gi_wp2_with fail
      refine ⟨trivial, ?_⟩
      refine (callsIn_wide.2 (cut_any p _ (by omega))).mono ?_
      rintro e w' ⟨a1, b1, m1, rfl, hc1, i1, rfl⟩
      have Hc1 := Lib.hid hc1
      clear hc1
      gi_wp2_with fail
      refine ⟨trivial, ?_⟩
      refine (callsIn_wide.2 (cut_any q _ (by omega))).mono ?_
      rintro e w' ⟨a2, b2, m2, rfl, hc2, i2, rfl⟩
      have hto2 := PTo.next HT.out (by simp) (a := a1) (b := a2) (p' := b1) (q' := b2) (m' := m1) (k' := m2) Hc1.out hc2
      have HT2 := Lib.hid hto2
      clear hc2 hto2
      have hK5 : Kept wr (((((wr.alloc (.cells #[.string ⟨#[]⟩, .string ⟨#[]⟩, .bool true, .bool k] 49)).drewN i1).setCell ⟨wr.heap.size, 0, none⟩ (.string a1)).drewN i2).setCell ⟨wr.heap.size, 1, none⟩ (.string a2)) :=
        Below.setCell (p := ⟨wr.heap.size, 1, none⟩) (kept_drewN (Below.setCell (p := ⟨wr.heap.size, 0, none⟩) (kept_drewN (Kept.alloc (Kept.refl wr) _) i1) (Nat.le_refl _) _) i2) (Nat.le_refl _) _
      obtain ⟨fn, tmps, assign, body, hy, hR⟩ := hY pre ⟨a1, a2, true, k⟩ _ (abides_kept hJ hJs hK5) hlen
      gi_wp2
      refine hR.mono ?_
      rintro e W3 (⟨rfl, hJ3, _⟩ | ⟨rfl, hJx3⟩)
      · gi_wp2
        go_roundw
        case rel => exact ⟨pre ++ [⟨a1, a2, true, k⟩], b1, b2, m1, m2, rfl, rfl, rfl, rfl, by rw [dats_snoc]; exact HT2.out.1, hJ3⟩
        case measure => exact HT2.out.2
      · gi_wp2
        refine bodyPost_ret (results_none rfl _ _ _) rfl ?_
        exact ⟨⟨_, rfl⟩, .inr ⟨pre ++ [⟨a1, a2, true, k⟩], by rw [dats_snoc]; exact HT2.out.1.pre, hJx3⟩⟩

/-- the levels of two texts, by iterator -/
theorem pairs_stops (n : Nat) (hn : 1 ≤ n) (B C : Nat) (s t : ByteArray) (hs : s.size ≤ 281474976710656) (ht : t.size ≤ 281474976710656) (w : World) (hB : B < w.heap.size) (hc : w.cell? ⟨B, 0, none⟩ = some (.string s)) (hC : C < w.heap.size) (hd : w.cell? ⟨C, 0, none⟩ = some (.string t)) :
    SeqStopsK Fence.wide n Try.prog 58 #[.pointer (some ⟨B, 0, none⟩), .pointer (some ⟨C, 0, none⟩)] (fun x : PV => #[Value.agg #[.string x.a, .string x.b, .bool x.ha, .bool x.hb]]) (fun _ _ => True) (fun ys => dats ys = Tp.prs (Tp.lev s.data.toList) (Tp.lev t.data.toList)) (fun pre => dats pre <+: Tp.prs (Tp.lev s.data.toList) (Tp.lev t.data.toList)) (s.size + t.size + 2) w := fun l J Jx W hW hJ _ hY h0 =>
  pairs1_in n hn l B C s t hs ht J Jx W hJ hY ((hW.cell (p := ⟨B, 0, none⟩) hB).trans hc) ((hW.cell (p := ⟨C, 0, none⟩) hC).trans hd) h0
end Go.Proofs.Ytlpkeimcklhdbaa
