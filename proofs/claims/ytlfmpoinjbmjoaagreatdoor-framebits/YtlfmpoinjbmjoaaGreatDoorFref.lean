/-
  The document's Right, of a frame.
-/
import Derived.Test.YtlfmpoinjbmjoaaGreatDoorFlaw
import Derived.Test.YtlfmpoinjbmjoaaGreatDoorEref7
namespace Go.Proofs.YtlfmpoinjbmjoaaGreatDoor
open Go.ChangeShapes Go.WideShapes Go.ChangeAt Go.RowKit

theorem rin7_any (n a b : Int) (w : World) : Calls Tryz.prog 25 #[.int .i64 n, .int .i64 a, .int .i64 b] w fun e w' => e = .returned (.bool (decide (a ≤ n ∧ n ≤ b))) ∧ Kept w w' := by
  by_cases h1 : a ≤ n
  · by_cases h2 : n ≤ b
    · have e : decide (a ≤ n ∧ n ≤ b) = true := by simp [h1, h2]
      rw [e]
      go_enter Tryz.func25, Tryz.ntmps25
      go_wp2
      go_ret
      exact ⟨rfl, Kept.refl w⟩
    · have e : decide (a ≤ n ∧ n ≤ b) = false := by simp [h2]
      rw [e]
      go_enter Tryz.func25, Tryz.ntmps25
      go_wp2
      go_ret
      exact ⟨rfl, Kept.refl w⟩
  · have e : decide (a ≤ n ∧ n ≤ b) = false := by simp [h1]
    rw [e]
    go_enter Tryz.func25, Tryz.ntmps25
    go_wp2
    go_ret
    exact ⟨rfl, Kept.refl w⟩

theorem e_no {R X : Bool} {B : Prop} (h : R = X) (n : X = true → ¬ B) (hB : B) : Ending.returned (.bool false) = Ending.returned (.bool R) := by
  rw [h]
  cases hx : X with
  | false => rfl
  | true => exact absurd hB (n hx)
theorem e_is {R X Y : Bool} (h : R = X) (e : X = Y) : Ending.returned (.bool Y) = Ending.returned (.bool R) := by rw [h, e]

theorem bytes_nil (s : ByteArray) : s = ⟨#[]⟩ ↔ s.toList = [] := by
  rw [toList_eq]
  constructor
  · rintro rfl; rfl
  · intro h
    cases s with
    | mk d => cases d with
      | mk l => simp at h; rw [h]
theorem ev_zero (e : Ev.E) : e = .zero ↔ (e.o = 0 ∧ e.s = 0 ∧ e.t.toList = [] ∧ e.l.toList = [] ∧ e.d = 0) := by
  obtain ⟨o, s, t, l, d⟩ := e
  simp only [Ev.E.zero, Ev.E.mk.injEq, bytes_nil]
theorem rk1 (f : Fr.F) (hk : f.k = 1) : Fr.right f = true ↔ (1 ≤ f.ep ∧ f.ep ≤ 1099511627776) ∧ Ev.sorted f.ms = true ∧ (f.e.o = 0 ∧ f.e.s = 0 ∧ f.e.t.toList = [] ∧ f.e.l.toList = [] ∧ f.e.d = 0) ∧ f.sq = 0 ∧ f.cr = 0 ∧ f.on = false ∧ f.fl.toList = [] := by
  have h : Fr.right f = true ↔ (1 ≤ f.ep ∧ f.ep ≤ 1099511627776) ∧ Ev.sorted f.ms = true ∧ (f.e = .zero) ∧ f.sq = 0 ∧ f.cr = 0 ∧ f.on = false ∧ f.fl = ⟨#[]⟩ := by
    obtain ⟨k, ep, sq, cr, on, fl, e, ms⟩ := f
    simp only at hk ⊢
    subst hk
    simp [Fr.right, Fr.has, Fr.parts, Fr.allows, Fr.p1, Fr.P.right, Fr.P.drop, Fr.same, Fr.F.zero, Fr.F.mk.injEq]
    try (constructor <;> (intro h; simp_all))
    try (intros; constructor <;> (intro h; simp_all))
  simp only [ev_zero, bytes_nil] at h
  exact h
theorem rk2 (f : Fr.F) (hk : f.k = 2) : Fr.right f = true ↔ (1 ≤ f.ep ∧ f.ep ≤ 1099511627776) ∧ Ev.sorted f.ms = true ∧ (f.e.o = 0 ∧ f.e.s = 0 ∧ f.e.t.toList = [] ∧ f.e.l.toList = [] ∧ f.e.d = 0) ∧ (1 ≤ f.sq ∧ f.sq ≤ 1099511627776) ∧ f.cr = 0 ∧ f.on = false ∧ f.fl.toList = [] := by
  have h : Fr.right f = true ↔ (1 ≤ f.ep ∧ f.ep ≤ 1099511627776) ∧ Ev.sorted f.ms = true ∧ (f.e = .zero) ∧ (1 ≤ f.sq ∧ f.sq ≤ 1099511627776) ∧ f.cr = 0 ∧ f.on = false ∧ f.fl = ⟨#[]⟩ := by
    obtain ⟨k, ep, sq, cr, on, fl, e, ms⟩ := f
    simp only at hk ⊢
    subst hk
    simp [Fr.right, Fr.has, Fr.parts, Fr.allows, Fr.p2, Fr.P.right, Fr.P.drop, Fr.same, Fr.F.zero, Fr.F.mk.injEq]
    try (constructor <;> (intro h; simp_all))
    try (intros; constructor <;> (intro h; simp_all))
  simp only [ev_zero, bytes_nil] at h
  exact h
theorem rk3 (f : Fr.F) (hk : f.k = 3) : Fr.right f = true ↔ (1 ≤ f.ep ∧ f.ep ≤ 1099511627776) ∧ f.ms.length = 0 ∧ (Ev.right f.e = true) ∧ (1 ≤ f.sq ∧ f.sq ≤ 1099511627776) ∧ f.cr = 0 ∧ f.on = false ∧ f.fl.toList = [] := by
  have h : Fr.right f = true ↔ (1 ≤ f.ep ∧ f.ep ≤ 1099511627776) ∧ f.ms.length = 0 ∧ (Ev.right f.e = true) ∧ (1 ≤ f.sq ∧ f.sq ≤ 1099511627776) ∧ f.cr = 0 ∧ f.on = false ∧ f.fl = ⟨#[]⟩ := by
    obtain ⟨k, ep, sq, cr, on, fl, e, ms⟩ := f
    simp only at hk ⊢
    subst hk
    simp [Fr.right, Fr.has, Fr.parts, Fr.allows, Fr.p3, Fr.P.right, Fr.P.drop, Fr.same, Fr.F.zero, Fr.F.mk.injEq]
    try (constructor <;> (intro h; simp_all))
    try (intros; constructor <;> (intro h; simp_all))
  simp only [bytes_nil] at h
  exact h
theorem rk4 (f : Fr.F) (hk : f.k = 4) : Fr.right f = true ↔ (1 ≤ f.ep ∧ f.ep ≤ 1099511627776) ∧ f.ms.length = 0 ∧ (f.e.o = 0 ∧ f.e.s = 0 ∧ f.e.t.toList = [] ∧ f.e.l.toList = [] ∧ f.e.d = 0) ∧ (0 ≤ f.sq ∧ f.sq ≤ 1099511627776) ∧ (0 ≤ f.cr ∧ f.cr ≤ 64) ∧ f.on = false ∧ f.fl.toList = [] := by
  have h : Fr.right f = true ↔ (1 ≤ f.ep ∧ f.ep ≤ 1099511627776) ∧ f.ms.length = 0 ∧ (f.e = .zero) ∧ (0 ≤ f.sq ∧ f.sq ≤ 1099511627776) ∧ (0 ≤ f.cr ∧ f.cr ≤ 64) ∧ f.on = false ∧ f.fl = ⟨#[]⟩ := by
    obtain ⟨k, ep, sq, cr, on, fl, e, ms⟩ := f
    simp only at hk ⊢
    subst hk
    simp [Fr.right, Fr.has, Fr.parts, Fr.allows, Fr.p4, Fr.P.right, Fr.P.drop, Fr.same, Fr.F.zero, Fr.F.mk.injEq]
    try (constructor <;> (intro h; simp_all))
    try (intros; constructor <;> (intro h; simp_all))
  simp only [ev_zero, bytes_nil] at h
  exact h
theorem rk5 (f : Fr.F) (hk : f.k = 5) : Fr.right f = true ↔ (1 ≤ f.ep ∧ f.ep ≤ 1099511627776) ∧ f.ms.length = 0 ∧ (f.e.o = 0 ∧ f.e.s = 0 ∧ f.e.t.toList = [] ∧ f.e.l.toList = [] ∧ f.e.d = 0) ∧ f.sq = 0 ∧ f.cr = 0 ∧ f.on = false ∧ f.fl.toList = [] := by
  have h : Fr.right f = true ↔ (1 ≤ f.ep ∧ f.ep ≤ 1099511627776) ∧ f.ms.length = 0 ∧ (f.e = .zero) ∧ f.sq = 0 ∧ f.cr = 0 ∧ f.on = false ∧ f.fl = ⟨#[]⟩ := by
    obtain ⟨k, ep, sq, cr, on, fl, e, ms⟩ := f
    simp only at hk ⊢
    subst hk
    simp [Fr.right, Fr.has, Fr.parts, Fr.allows, Fr.p5, Fr.P.right, Fr.P.drop, Fr.same, Fr.F.zero, Fr.F.mk.injEq]
    try (constructor <;> (intro h; simp_all))
    try (intros; constructor <;> (intro h; simp_all))
  simp only [ev_zero, bytes_nil] at h
  exact h
theorem rk6 (f : Fr.F) (hk : f.k = 6) : Fr.right f = true ↔ (1 ≤ f.ep ∧ f.ep ≤ 1099511627776) ∧ f.ms.length = 0 ∧ (f.e.o = 0 ∧ f.e.s = 0 ∧ f.e.t.toList = [] ∧ f.e.l.toList = [] ∧ f.e.d = 0) ∧ f.sq = 0 ∧ f.cr = 0 ∧ True ∧ Tp.filter f.fl.data.toList = true := by
  have h : Fr.right f = true ↔ (1 ≤ f.ep ∧ f.ep ≤ 1099511627776) ∧ f.ms.length = 0 ∧ (f.e = .zero) ∧ f.sq = 0 ∧ f.cr = 0 ∧ True ∧ Tp.filter f.fl.data.toList = true := by
    obtain ⟨k, ep, sq, cr, on, fl, e, ms⟩ := f
    simp only at hk ⊢
    subst hk
    simp [Fr.right, Fr.has, Fr.parts, Fr.allows, Fr.p6, Fr.P.right, Fr.P.drop, Fr.same, Fr.F.zero, Fr.F.mk.injEq]
    try (constructor <;> (intro h; simp_all))
    try (intros; constructor <;> (intro h; simp_all))
  simp only [ev_zero] at h
  exact h
theorem pk1 (f : Fr.F) (hk : f.k = 1) (h0 : (!decide (1 ≤ f.ep)) = false ∧ (!decide (f.ep ≤ 1099511627776)) = false) (h1 : (!Ev.sorted f.ms) = false) (h2 : f.e.o = 0) (h3 : f.e.s = 0) (h4 : f.e.t.toList = []) (h5 : f.e.l.toList = []) (h6 : f.e.d = 0) (h7 : f.sq = 0) (h8 : f.cr = 0) (h9 : ¬ f.on = true) : Fr.right f = f.fl.toList.isEmpty := by
  rw [Bool.eq_iff_iff, rk1 f hk]
  simp_all
  try omega
theorem n1_0 (f : Fr.F) (hk : f.k = 1) : Fr.right f = true → ¬ ((!decide (1 ≤ f.ep)) = true ∨ (!decide (f.ep ≤ 1099511627776)) = true) := by
  intro hr hB
  have N := (rk1 f hk).1 hr
  try simp_all
  try omega
theorem n1_1 (f : Fr.F) (hk : f.k = 1) : Fr.right f = true → ¬ ((!Ev.sorted f.ms) = true) := by
  intro hr hB
  have N := (rk1 f hk).1 hr
  try simp_all
  try omega
theorem n1_2 (f : Fr.F) (hk : f.k = 1) : Fr.right f = true → ¬ (¬ f.e.o = 0) := by
  intro hr hB
  have N := (rk1 f hk).1 hr
  try simp_all
  try omega
theorem n1_3 (f : Fr.F) (hk : f.k = 1) : Fr.right f = true → ¬ (¬ f.e.s = 0) := by
  intro hr hB
  have N := (rk1 f hk).1 hr
  try simp_all
  try omega
theorem n1_4 (f : Fr.F) (hk : f.k = 1) : Fr.right f = true → ¬ (¬ f.e.t.toList = []) := by
  intro hr hB
  have N := (rk1 f hk).1 hr
  try simp_all
  try omega
theorem n1_5 (f : Fr.F) (hk : f.k = 1) : Fr.right f = true → ¬ (¬ f.e.l.toList = []) := by
  intro hr hB
  have N := (rk1 f hk).1 hr
  try simp_all
  try omega
theorem n1_6 (f : Fr.F) (hk : f.k = 1) : Fr.right f = true → ¬ (¬ f.e.d = 0) := by
  intro hr hB
  have N := (rk1 f hk).1 hr
  try simp_all
  try omega
theorem n1_7 (f : Fr.F) (hk : f.k = 1) : Fr.right f = true → ¬ (¬ f.sq = 0) := by
  intro hr hB
  have N := (rk1 f hk).1 hr
  try simp_all
  try omega
theorem n1_8 (f : Fr.F) (hk : f.k = 1) : Fr.right f = true → ¬ (¬ f.cr = 0) := by
  intro hr hB
  have N := (rk1 f hk).1 hr
  try simp_all
  try omega
theorem n1_9 (f : Fr.F) (hk : f.k = 1) : Fr.right f = true → ¬ (f.on = true) := by
  intro hr hB
  have N := (rk1 f hk).1 hr
  try simp_all
  try omega
theorem pk2 (f : Fr.F) (hk : f.k = 2) (h0 : (!decide (1 ≤ f.ep)) = false ∧ (!decide (f.ep ≤ 1099511627776)) = false) (h1 : (!Ev.sorted f.ms) = false) (h2 : f.e.o = 0) (h3 : f.e.s = 0) (h4 : f.e.t.toList = []) (h5 : f.e.l.toList = []) (h6 : f.e.d = 0) (_h7 : 1 ≤ f.sq) (h8 : 1 ≤ f.sq ∧ (!decide (0 ≤ f.sq)) = false ∧ (!decide (f.sq ≤ 1099511627776)) = false) (h9 : f.cr = 0) (h10 : ¬ f.on = true) : Fr.right f = f.fl.toList.isEmpty := by
  rw [Bool.eq_iff_iff, rk2 f hk]
  simp_all
  try omega
theorem n2_0 (f : Fr.F) (hk : f.k = 2) : Fr.right f = true → ¬ ((!decide (1 ≤ f.ep)) = true ∨ (!decide (f.ep ≤ 1099511627776)) = true) := by
  intro hr hB
  have N := (rk2 f hk).1 hr
  try simp_all
  try omega
theorem n2_1 (f : Fr.F) (hk : f.k = 2) : Fr.right f = true → ¬ ((!Ev.sorted f.ms) = true) := by
  intro hr hB
  have N := (rk2 f hk).1 hr
  try simp_all
  try omega
theorem n2_2 (f : Fr.F) (hk : f.k = 2) : Fr.right f = true → ¬ (¬ f.e.o = 0) := by
  intro hr hB
  have N := (rk2 f hk).1 hr
  try simp_all
  try omega
theorem n2_3 (f : Fr.F) (hk : f.k = 2) : Fr.right f = true → ¬ (¬ f.e.s = 0) := by
  intro hr hB
  have N := (rk2 f hk).1 hr
  try simp_all
  try omega
theorem n2_4 (f : Fr.F) (hk : f.k = 2) : Fr.right f = true → ¬ (¬ f.e.t.toList = []) := by
  intro hr hB
  have N := (rk2 f hk).1 hr
  try simp_all
  try omega
theorem n2_5 (f : Fr.F) (hk : f.k = 2) : Fr.right f = true → ¬ (¬ f.e.l.toList = []) := by
  intro hr hB
  have N := (rk2 f hk).1 hr
  try simp_all
  try omega
theorem n2_6 (f : Fr.F) (hk : f.k = 2) : Fr.right f = true → ¬ (¬ f.e.d = 0) := by
  intro hr hB
  have N := (rk2 f hk).1 hr
  try simp_all
  try omega
theorem n2_7 (f : Fr.F) (hk : f.k = 2) : Fr.right f = true → ¬ (f.sq < 1) := by
  intro hr hB
  have N := (rk2 f hk).1 hr
  try simp_all
  try omega
theorem n2_8 (f : Fr.F) (hk : f.k = 2) : Fr.right f = true → ¬ (f.sq < 1 ∨ (!decide (0 ≤ f.sq)) = true ∨ (!decide (f.sq ≤ 1099511627776)) = true) := by
  intro hr hB
  have N := (rk2 f hk).1 hr
  try simp_all
  try omega
theorem n2_9 (f : Fr.F) (hk : f.k = 2) : Fr.right f = true → ¬ (¬ f.cr = 0) := by
  intro hr hB
  have N := (rk2 f hk).1 hr
  try simp_all
  try omega
theorem n2_10 (f : Fr.F) (hk : f.k = 2) : Fr.right f = true → ¬ (f.on = true) := by
  intro hr hB
  have N := (rk2 f hk).1 hr
  try simp_all
  try omega
theorem pk3 (f : Fr.F) (hk : f.k = 3) (h0 : f.ms = []) (h1 : (!decide (1 ≤ f.ep)) = false ∧ (!decide (f.ep ≤ 1099511627776)) = false) (h2 : Ev.right f.e = true) (h3 : 1 ≤ f.sq) (h4 : (!decide (0 ≤ f.sq)) = false ∧ (!decide (f.sq ≤ 1099511627776)) = false) (h5 : f.cr = 0) (h6 : ¬ f.on = true) : Fr.right f = f.fl.toList.isEmpty := by
  rw [Bool.eq_iff_iff, rk3 f hk]
  simp_all
  try omega
theorem n3_0 (f : Fr.F) (hk : f.k = 3) : Fr.right f = true → ¬ ((!decide (1 ≤ f.ep)) = true ∨ (!decide (f.ep ≤ 1099511627776)) = true) := by
  intro hr hB
  have N := (rk3 f hk).1 hr
  try simp_all
  try omega
theorem n3_1 (f : Fr.F) (hk : f.k = 3) : Fr.right f = true → ¬ (¬ Ev.right f.e = true) := by
  intro hr hB
  have N := (rk3 f hk).1 hr
  try simp_all
  try omega
theorem n3_2 (f : Fr.F) (hk : f.k = 3) : Fr.right f = true → ¬ (f.sq < 1) := by
  intro hr hB
  have N := (rk3 f hk).1 hr
  try simp_all
  try omega
theorem n3_3 (f : Fr.F) (hk : f.k = 3) : Fr.right f = true → ¬ ((!decide (0 ≤ f.sq)) = true ∨ (!decide (f.sq ≤ 1099511627776)) = true) := by
  intro hr hB
  have N := (rk3 f hk).1 hr
  try simp_all
  try omega
theorem n3_4 (f : Fr.F) (hk : f.k = 3) : Fr.right f = true → ¬ (¬ f.cr = 0) := by
  intro hr hB
  have N := (rk3 f hk).1 hr
  try simp_all
  try omega
theorem n3_5 (f : Fr.F) (hk : f.k = 3) : Fr.right f = true → ¬ (f.on = true) := by
  intro hr hB
  have N := (rk3 f hk).1 hr
  try simp_all
  try omega
theorem n3_m (f : Fr.F) (hk : f.k = 3) : Fr.right f = true → ¬ (0 < f.ms.length) := by
  intro hr hB
  have N := (rk3 f hk).1 hr
  have := N.2.1
  omega
theorem pk4 (f : Fr.F) (hk : f.k = 4) (h0 : f.ms = []) (h1 : (!decide (1 ≤ f.ep)) = false ∧ (!decide (f.ep ≤ 1099511627776)) = false) (h2 : f.e.o = 0) (h3 : f.e.s = 0) (h4 : f.e.t.toList = []) (h5 : f.e.l.toList = []) (h6 : f.e.d = 0) (h7 : (!decide (0 ≤ f.sq)) = false ∧ (!decide (f.sq ≤ 1099511627776)) = false) (h8 : (!decide (0 ≤ f.cr)) = false ∧ (!decide (f.cr ≤ 64)) = false) (h9 : ¬ f.on = true) : Fr.right f = f.fl.toList.isEmpty := by
  rw [Bool.eq_iff_iff, rk4 f hk]
  simp_all
  try omega
theorem n4_0 (f : Fr.F) (hk : f.k = 4) : Fr.right f = true → ¬ ((!decide (1 ≤ f.ep)) = true ∨ (!decide (f.ep ≤ 1099511627776)) = true) := by
  intro hr hB
  have N := (rk4 f hk).1 hr
  try simp_all
  try omega
theorem n4_1 (f : Fr.F) (hk : f.k = 4) : Fr.right f = true → ¬ (¬ f.e.o = 0) := by
  intro hr hB
  have N := (rk4 f hk).1 hr
  try simp_all
  try omega
theorem n4_2 (f : Fr.F) (hk : f.k = 4) : Fr.right f = true → ¬ (¬ f.e.s = 0) := by
  intro hr hB
  have N := (rk4 f hk).1 hr
  try simp_all
  try omega
theorem n4_3 (f : Fr.F) (hk : f.k = 4) : Fr.right f = true → ¬ (¬ f.e.t.toList = []) := by
  intro hr hB
  have N := (rk4 f hk).1 hr
  try simp_all
  try omega
theorem n4_4 (f : Fr.F) (hk : f.k = 4) : Fr.right f = true → ¬ (¬ f.e.l.toList = []) := by
  intro hr hB
  have N := (rk4 f hk).1 hr
  try simp_all
  try omega
theorem n4_5 (f : Fr.F) (hk : f.k = 4) : Fr.right f = true → ¬ (¬ f.e.d = 0) := by
  intro hr hB
  have N := (rk4 f hk).1 hr
  try simp_all
  try omega
theorem n4_6 (f : Fr.F) (hk : f.k = 4) : Fr.right f = true → ¬ ((!decide (0 ≤ f.sq)) = true ∨ (!decide (f.sq ≤ 1099511627776)) = true) := by
  intro hr hB
  have N := (rk4 f hk).1 hr
  try simp_all
  try omega
theorem n4_7 (f : Fr.F) (hk : f.k = 4) : Fr.right f = true → ¬ ((!decide (0 ≤ f.cr)) = true ∨ (!decide (f.cr ≤ 64)) = true) := by
  intro hr hB
  have N := (rk4 f hk).1 hr
  try simp_all
  try omega
theorem n4_8 (f : Fr.F) (hk : f.k = 4) : Fr.right f = true → ¬ (f.on = true) := by
  intro hr hB
  have N := (rk4 f hk).1 hr
  try simp_all
  try omega
theorem n4_m (f : Fr.F) (hk : f.k = 4) : Fr.right f = true → ¬ (0 < f.ms.length) := by
  intro hr hB
  have N := (rk4 f hk).1 hr
  have := N.2.1
  omega
theorem pk5 (f : Fr.F) (hk : f.k = 5) (h0 : f.ms = []) (h1 : (!decide (1 ≤ f.ep)) = false ∧ (!decide (f.ep ≤ 1099511627776)) = false) (h2 : f.e.o = 0) (h3 : f.e.s = 0) (h4 : f.e.t.toList = []) (h5 : f.e.l.toList = []) (h6 : f.e.d = 0) (h7 : f.sq = 0) (h8 : f.cr = 0) (h9 : ¬ f.on = true) : Fr.right f = f.fl.toList.isEmpty := by
  rw [Bool.eq_iff_iff, rk5 f hk]
  simp_all
  try omega
theorem n5_0 (f : Fr.F) (hk : f.k = 5) : Fr.right f = true → ¬ ((!decide (1 ≤ f.ep)) = true ∨ (!decide (f.ep ≤ 1099511627776)) = true) := by
  intro hr hB
  have N := (rk5 f hk).1 hr
  try simp_all
  try omega
theorem n5_1 (f : Fr.F) (hk : f.k = 5) : Fr.right f = true → ¬ (¬ f.e.o = 0) := by
  intro hr hB
  have N := (rk5 f hk).1 hr
  try simp_all
  try omega
theorem n5_2 (f : Fr.F) (hk : f.k = 5) : Fr.right f = true → ¬ (¬ f.e.s = 0) := by
  intro hr hB
  have N := (rk5 f hk).1 hr
  try simp_all
  try omega
theorem n5_3 (f : Fr.F) (hk : f.k = 5) : Fr.right f = true → ¬ (¬ f.e.t.toList = []) := by
  intro hr hB
  have N := (rk5 f hk).1 hr
  try simp_all
  try omega
theorem n5_4 (f : Fr.F) (hk : f.k = 5) : Fr.right f = true → ¬ (¬ f.e.l.toList = []) := by
  intro hr hB
  have N := (rk5 f hk).1 hr
  try simp_all
  try omega
theorem n5_5 (f : Fr.F) (hk : f.k = 5) : Fr.right f = true → ¬ (¬ f.e.d = 0) := by
  intro hr hB
  have N := (rk5 f hk).1 hr
  try simp_all
  try omega
theorem n5_6 (f : Fr.F) (hk : f.k = 5) : Fr.right f = true → ¬ (¬ f.sq = 0) := by
  intro hr hB
  have N := (rk5 f hk).1 hr
  try simp_all
  try omega
theorem n5_7 (f : Fr.F) (hk : f.k = 5) : Fr.right f = true → ¬ (¬ f.cr = 0) := by
  intro hr hB
  have N := (rk5 f hk).1 hr
  try simp_all
  try omega
theorem n5_8 (f : Fr.F) (hk : f.k = 5) : Fr.right f = true → ¬ (f.on = true) := by
  intro hr hB
  have N := (rk5 f hk).1 hr
  try simp_all
  try omega
theorem n5_m (f : Fr.F) (hk : f.k = 5) : Fr.right f = true → ¬ (0 < f.ms.length) := by
  intro hr hB
  have N := (rk5 f hk).1 hr
  have := N.2.1
  omega
theorem pk6 (f : Fr.F) (hk : f.k = 6) (h0 : f.ms = []) (h1 : (!decide (1 ≤ f.ep)) = false ∧ (!decide (f.ep ≤ 1099511627776)) = false) (h2 : f.e.o = 0) (h3 : f.e.s = 0) (h4 : f.e.t.toList = []) (h5 : f.e.l.toList = []) (h6 : f.e.d = 0) (h7 : f.sq = 0) (h8 : f.cr = 0) : Fr.right f = Tp.filter f.fl.data.toList := by
  rw [Bool.eq_iff_iff, rk6 f hk]
  simp_all
  try omega
theorem n6_0 (f : Fr.F) (hk : f.k = 6) : Fr.right f = true → ¬ ((!decide (1 ≤ f.ep)) = true ∨ (!decide (f.ep ≤ 1099511627776)) = true) := by
  intro hr hB
  have N := (rk6 f hk).1 hr
  try simp_all
  try omega
theorem n6_1 (f : Fr.F) (hk : f.k = 6) : Fr.right f = true → ¬ (¬ f.e.o = 0) := by
  intro hr hB
  have N := (rk6 f hk).1 hr
  try simp_all
  try omega
theorem n6_2 (f : Fr.F) (hk : f.k = 6) : Fr.right f = true → ¬ (¬ f.e.s = 0) := by
  intro hr hB
  have N := (rk6 f hk).1 hr
  try simp_all
  try omega
theorem n6_3 (f : Fr.F) (hk : f.k = 6) : Fr.right f = true → ¬ (¬ f.e.t.toList = []) := by
  intro hr hB
  have N := (rk6 f hk).1 hr
  try simp_all
  try omega
theorem n6_4 (f : Fr.F) (hk : f.k = 6) : Fr.right f = true → ¬ (¬ f.e.l.toList = []) := by
  intro hr hB
  have N := (rk6 f hk).1 hr
  try simp_all
  try omega
theorem n6_5 (f : Fr.F) (hk : f.k = 6) : Fr.right f = true → ¬ (¬ f.e.d = 0) := by
  intro hr hB
  have N := (rk6 f hk).1 hr
  try simp_all
  try omega
theorem n6_6 (f : Fr.F) (hk : f.k = 6) : Fr.right f = true → ¬ (¬ f.sq = 0) := by
  intro hr hB
  have N := (rk6 f hk).1 hr
  try simp_all
  try omega
theorem n6_7 (f : Fr.F) (hk : f.k = 6) : Fr.right f = true → ¬ (¬ f.cr = 0) := by
  intro hr hB
  have N := (rk6 f hk).1 hr
  try simp_all
  try omega
theorem n6_m (f : Fr.F) (hk : f.k = 6) : Fr.right f = true → ¬ (0 < f.ms.length) := by
  intro hr hB
  have N := (rk6 f hk).1 hr
  have := N.2.1
  omega
theorem ro (f : Fr.F) (hk : f.k < 1 ∨ 6 < f.k) : Fr.right f = false := by
  have : Fr.has f.k = none := by
    unfold Fr.has
    rw [if_neg (by omega), if_neg (by omega), if_neg (by omega), if_neg (by omega), if_neg (by omega), if_neg (by omega)]
  simp [Fr.right, this]

set_option maxHeartbeats 4000000 in
set_option maxRecDepth 100000 in
theorem rright7_1 (f : Fr.F) (av : Option Addr) (cap : Nat) (w : World) (hf : FrS w f av cap) (hk : f.k = 1) :
    Calls Tryz.prog 11 #[frv f av cap] w fun r w' => r = .returned (.bool (Fr.right f)) ∧ Kept w w' := by
  have b0 := Blk.made w (frc f av cap) 26
  have k0 : Kept w (w.alloc (.cells (frc f av cap) 26)) := (Kept.refl w).alloc _
  obtain ⟨W, hW⟩ : ∃ W, W = w.alloc (.cells (frc f av cap) 26) := ⟨_, rfl⟩
  rw [← hW] at b0 k0
  have hf0 := hf.kept k0
  have CI : Hid (∀ (p : KW W) (n a b : Int), Calls Tryz.prog 25 #[.int .i64 n, .int .i64 a, .int .i64 b] p.v fun r w' => r = .returned (.bool (decide (a ≤ n ∧ n ≤ b))) ∧ ∃ q : KW W, w' = q.v) := fun p n a b => KW.calls p (rin7_any n a b p.v)
  have CS : Hid (∀ p : KW W, Calls Tryz.prog 26 #[.slice av f.ms.length cap] p.v fun r w' => r = .returned (.bool (Ev.sorted f.ms)) ∧ ∃ q : KW W, w' = q.v) := fun p => KW.calls p (rsorted_any av cap f.ms p.v (hf0.ms.kept p.h))
  have CE : Hid (∀ p : KW W, Calls Tryz.prog 27 #[evv f.e] p.v fun r w' => r = .returned (.bool (Ev.right f.e)) ∧ ∃ q : KW W, w' = q.v) := fun p => KW.calls p (rright_ev f.e p.v hf0.e (by have := hf0.et; omega))
  have CF : Hid (∀ p : KW W, Calls Tryz.prog 28 #[.string f.fl] p.v fun r w' => r = .returned (.bool (Tp.filter f.fl.data.toList)) ∧ ∃ q : KW W, w' = q.v) := fun p => KW.calls p (rfilter_any f.fl p.v (by have := hf0.fl; omega))
  obtain ⟨R, hR⟩ : ∃ R, R = Fr.right f := ⟨_, rfl⟩
  rw [← hR]
  have HR := Lib.hid hR
  have K0 := Lib.hid k0
  have t0 := KW.cell (show W.cell? ⟨w.heap.size, 0, none⟩ = some (.int .i64 1) from by rw [show (1 : Int) = f.k from hk.symm]; exact cell_of b0 0 rfl)
  have t1 := KW.cell (show W.cell? ⟨w.heap.size, 1, none⟩ = some (.int .i64 f.ep) from by exact cell_of b0 1 rfl)
  have t2 := KW.cell (show W.cell? ⟨w.heap.size, 2, none⟩ = some (.int .i64 f.sq) from by exact cell_of b0 2 rfl)
  have t3 := KW.cell (show W.cell? ⟨w.heap.size, 3, none⟩ = some (.int .i64 f.cr) from by exact cell_of b0 3 rfl)
  have t4 := KW.cell (show W.cell? ⟨w.heap.size, 4, none⟩ = some (.bool f.on) from by exact cell_of b0 4 rfl)
  have t5 := KW.cell (show W.cell? ⟨w.heap.size, 5, none⟩ = some (.string f.fl) from by exact cell_of b0 5 rfl)
  have t6 := KW.cell (show W.cell? ⟨w.heap.size, 6, none⟩ = some (.int .i64 f.e.o) from by exact cell_of b0 6 rfl)
  have t7 := KW.cell (show W.cell? ⟨w.heap.size, 7, none⟩ = some (.int .i64 f.e.s) from by exact cell_of b0 7 rfl)
  have t8 := KW.cell (show W.cell? ⟨w.heap.size, 8, none⟩ = some (.string f.e.t) from by exact cell_of b0 8 rfl)
  have t9 := KW.cell (show W.cell? ⟨w.heap.size, 9, none⟩ = some (.string f.e.l) from by exact cell_of b0 9 rfl)
  have t10 := KW.cell (show W.cell? ⟨w.heap.size, 10, none⟩ = some (.int .i64 f.e.d) from by exact cell_of b0 10 rfl)
  have t11 := KW.cell (show W.cell? ⟨w.heap.size, 11, none⟩ = some (.slice av f.ms.length cap) from by exact cell_of b0 11 rfl)
  unfold evv at CE
  unfold frv frc
  unfold frc at hW
  rw [hk] at hW ⊢
  obtain ⟨p0, hp0⟩ : ∃ p : KW W, p.v = W := ⟨⟨W, Kept.refl W⟩, rfl⟩
  clear hf hf0 b0 k0 hR
  go_enter Tryz.func11, Tryz.ntmps11
  go_wp2_with fail
  rw [← hW, ← hp0]
  refine (CI.out _ _ _ _).mono ?_
  rintro r _ ⟨rfl, p1, rfl⟩
  clear hW hp0
  go_wp2_with (first
    | (go_at_call 25; refine (CI.out _ _ _ _).mono ?_; rintro r _ ⟨rfl, q, rfl⟩)
    | (go_at_call 26; refine (CS.out _).mono ?_; rintro r _ ⟨rfl, q, rfl⟩)
    | (go_at_call 27; refine (CE.out _).mono ?_; rintro r _ ⟨rfl, q, rfl⟩)
    | (go_at_call 28; refine (CF.out _).mono ?_; rintro r _ ⟨rfl, q, rfl⟩))
  all_goals go_ret
  all_goals refine ⟨?_, K0.out.trans (KW.h _)⟩
  all_goals (first
    | exact e_no HR.out (n1_0 f hk) (by assumption)
    | exact e_no HR.out (n1_1 f hk) (by assumption)
    | exact e_no HR.out (n1_2 f hk) (by assumption)
    | exact e_no HR.out (n1_3 f hk) (by assumption)
    | exact e_no HR.out (n1_4 f hk) (by assumption)
    | exact e_no HR.out (n1_5 f hk) (by assumption)
    | exact e_no HR.out (n1_6 f hk) (by assumption)
    | exact e_no HR.out (n1_7 f hk) (by assumption)
    | exact e_no HR.out (n1_8 f hk) (by assumption)
    | exact e_no HR.out (n1_9 f hk) (by assumption)
    | exact e_is HR.out (pk1 f hk (by assumption) (by assumption) (by assumption) (by assumption) (by assumption) (by assumption) (by assumption) (by assumption) (by assumption) (by assumption)))

set_option maxHeartbeats 4000000 in
set_option maxRecDepth 100000 in
theorem rright7_2 (f : Fr.F) (av : Option Addr) (cap : Nat) (w : World) (hf : FrS w f av cap) (hk : f.k = 2) :
    Calls Tryz.prog 11 #[frv f av cap] w fun r w' => r = .returned (.bool (Fr.right f)) ∧ Kept w w' := by
  have b0 := Blk.made w (frc f av cap) 26
  have k0 : Kept w (w.alloc (.cells (frc f av cap) 26)) := (Kept.refl w).alloc _
  obtain ⟨W, hW⟩ : ∃ W, W = w.alloc (.cells (frc f av cap) 26) := ⟨_, rfl⟩
  rw [← hW] at b0 k0
  have hf0 := hf.kept k0
  have CI : Hid (∀ (p : KW W) (n a b : Int), Calls Tryz.prog 25 #[.int .i64 n, .int .i64 a, .int .i64 b] p.v fun r w' => r = .returned (.bool (decide (a ≤ n ∧ n ≤ b))) ∧ ∃ q : KW W, w' = q.v) := fun p n a b => KW.calls p (rin7_any n a b p.v)
  have CS : Hid (∀ p : KW W, Calls Tryz.prog 26 #[.slice av f.ms.length cap] p.v fun r w' => r = .returned (.bool (Ev.sorted f.ms)) ∧ ∃ q : KW W, w' = q.v) := fun p => KW.calls p (rsorted_any av cap f.ms p.v (hf0.ms.kept p.h))
  have CE : Hid (∀ p : KW W, Calls Tryz.prog 27 #[evv f.e] p.v fun r w' => r = .returned (.bool (Ev.right f.e)) ∧ ∃ q : KW W, w' = q.v) := fun p => KW.calls p (rright_ev f.e p.v hf0.e (by have := hf0.et; omega))
  have CF : Hid (∀ p : KW W, Calls Tryz.prog 28 #[.string f.fl] p.v fun r w' => r = .returned (.bool (Tp.filter f.fl.data.toList)) ∧ ∃ q : KW W, w' = q.v) := fun p => KW.calls p (rfilter_any f.fl p.v (by have := hf0.fl; omega))
  obtain ⟨R, hR⟩ : ∃ R, R = Fr.right f := ⟨_, rfl⟩
  rw [← hR]
  have HR := Lib.hid hR
  have K0 := Lib.hid k0
  have t0 := KW.cell (show W.cell? ⟨w.heap.size, 0, none⟩ = some (.int .i64 2) from by rw [show (2 : Int) = f.k from hk.symm]; exact cell_of b0 0 rfl)
  have t1 := KW.cell (show W.cell? ⟨w.heap.size, 1, none⟩ = some (.int .i64 f.ep) from by exact cell_of b0 1 rfl)
  have t2 := KW.cell (show W.cell? ⟨w.heap.size, 2, none⟩ = some (.int .i64 f.sq) from by exact cell_of b0 2 rfl)
  have t3 := KW.cell (show W.cell? ⟨w.heap.size, 3, none⟩ = some (.int .i64 f.cr) from by exact cell_of b0 3 rfl)
  have t4 := KW.cell (show W.cell? ⟨w.heap.size, 4, none⟩ = some (.bool f.on) from by exact cell_of b0 4 rfl)
  have t5 := KW.cell (show W.cell? ⟨w.heap.size, 5, none⟩ = some (.string f.fl) from by exact cell_of b0 5 rfl)
  have t6 := KW.cell (show W.cell? ⟨w.heap.size, 6, none⟩ = some (.int .i64 f.e.o) from by exact cell_of b0 6 rfl)
  have t7 := KW.cell (show W.cell? ⟨w.heap.size, 7, none⟩ = some (.int .i64 f.e.s) from by exact cell_of b0 7 rfl)
  have t8 := KW.cell (show W.cell? ⟨w.heap.size, 8, none⟩ = some (.string f.e.t) from by exact cell_of b0 8 rfl)
  have t9 := KW.cell (show W.cell? ⟨w.heap.size, 9, none⟩ = some (.string f.e.l) from by exact cell_of b0 9 rfl)
  have t10 := KW.cell (show W.cell? ⟨w.heap.size, 10, none⟩ = some (.int .i64 f.e.d) from by exact cell_of b0 10 rfl)
  have t11 := KW.cell (show W.cell? ⟨w.heap.size, 11, none⟩ = some (.slice av f.ms.length cap) from by exact cell_of b0 11 rfl)
  unfold evv at CE
  unfold frv frc
  unfold frc at hW
  rw [hk] at hW ⊢
  obtain ⟨p0, hp0⟩ : ∃ p : KW W, p.v = W := ⟨⟨W, Kept.refl W⟩, rfl⟩
  clear hf hf0 b0 k0 hR
  go_enter Tryz.func11, Tryz.ntmps11
  go_wp2_with fail
  rw [← hW, ← hp0]
  refine (CI.out _ _ _ _).mono ?_
  rintro r _ ⟨rfl, p1, rfl⟩
  clear hW hp0
  go_wp2_with (first
    | (go_at_call 25; refine (CI.out _ _ _ _).mono ?_; rintro r _ ⟨rfl, q, rfl⟩)
    | (go_at_call 26; refine (CS.out _).mono ?_; rintro r _ ⟨rfl, q, rfl⟩)
    | (go_at_call 27; refine (CE.out _).mono ?_; rintro r _ ⟨rfl, q, rfl⟩)
    | (go_at_call 28; refine (CF.out _).mono ?_; rintro r _ ⟨rfl, q, rfl⟩))
  all_goals go_ret
  all_goals refine ⟨?_, K0.out.trans (KW.h _)⟩
  all_goals (first
    | exact e_no HR.out (n2_0 f hk) (by assumption)
    | exact e_no HR.out (n2_1 f hk) (by assumption)
    | exact e_no HR.out (n2_2 f hk) (by assumption)
    | exact e_no HR.out (n2_3 f hk) (by assumption)
    | exact e_no HR.out (n2_4 f hk) (by assumption)
    | exact e_no HR.out (n2_5 f hk) (by assumption)
    | exact e_no HR.out (n2_6 f hk) (by assumption)
    | exact e_no HR.out (n2_7 f hk) (by assumption)
    | exact e_no HR.out (n2_8 f hk) (by assumption)
    | exact e_no HR.out (n2_9 f hk) (by assumption)
    | exact e_no HR.out (n2_10 f hk) (by assumption)
    | exact e_is HR.out (pk2 f hk (by assumption) (by assumption) (by assumption) (by assumption) (by assumption) (by assumption) (by assumption) (by assumption) (by assumption) (by assumption) (by assumption)))

set_option maxHeartbeats 4000000 in
set_option maxRecDepth 100000 in
theorem rright7_3 (f : Fr.F) (av : Option Addr) (cap : Nat) (w : World) (hf : FrS w f av cap) (hk : f.k = 3) (hms0 : f.ms = []) :
    Calls Tryz.prog 11 #[frv f av cap] w fun r w' => r = .returned (.bool (Fr.right f)) ∧ Kept w w' := by
  have b0 := Blk.made w (frc f av cap) 26
  have k0 : Kept w (w.alloc (.cells (frc f av cap) 26)) := (Kept.refl w).alloc _
  obtain ⟨W, hW⟩ : ∃ W, W = w.alloc (.cells (frc f av cap) 26) := ⟨_, rfl⟩
  rw [← hW] at b0 k0
  have hf0 := hf.kept k0
  have CI : Hid (∀ (p : KW W) (n a b : Int), Calls Tryz.prog 25 #[.int .i64 n, .int .i64 a, .int .i64 b] p.v fun r w' => r = .returned (.bool (decide (a ≤ n ∧ n ≤ b))) ∧ ∃ q : KW W, w' = q.v) := fun p n a b => KW.calls p (rin7_any n a b p.v)
  have CS : Hid (∀ p : KW W, Calls Tryz.prog 26 #[.slice av f.ms.length cap] p.v fun r w' => r = .returned (.bool (Ev.sorted f.ms)) ∧ ∃ q : KW W, w' = q.v) := fun p => KW.calls p (rsorted_any av cap f.ms p.v (hf0.ms.kept p.h))
  have CE : Hid (∀ p : KW W, Calls Tryz.prog 27 #[evv f.e] p.v fun r w' => r = .returned (.bool (Ev.right f.e)) ∧ ∃ q : KW W, w' = q.v) := fun p => KW.calls p (rright_ev f.e p.v hf0.e (by have := hf0.et; omega))
  have CF : Hid (∀ p : KW W, Calls Tryz.prog 28 #[.string f.fl] p.v fun r w' => r = .returned (.bool (Tp.filter f.fl.data.toList)) ∧ ∃ q : KW W, w' = q.v) := fun p => KW.calls p (rfilter_any f.fl p.v (by have := hf0.fl; omega))
  obtain ⟨R, hR⟩ : ∃ R, R = Fr.right f := ⟨_, rfl⟩
  rw [← hR]
  have HR := Lib.hid hR
  have K0 := Lib.hid k0
  have t0 := KW.cell (show W.cell? ⟨w.heap.size, 0, none⟩ = some (.int .i64 3) from by rw [show (3 : Int) = f.k from hk.symm]; exact cell_of b0 0 rfl)
  have t1 := KW.cell (show W.cell? ⟨w.heap.size, 1, none⟩ = some (.int .i64 f.ep) from by exact cell_of b0 1 rfl)
  have t2 := KW.cell (show W.cell? ⟨w.heap.size, 2, none⟩ = some (.int .i64 f.sq) from by exact cell_of b0 2 rfl)
  have t3 := KW.cell (show W.cell? ⟨w.heap.size, 3, none⟩ = some (.int .i64 f.cr) from by exact cell_of b0 3 rfl)
  have t4 := KW.cell (show W.cell? ⟨w.heap.size, 4, none⟩ = some (.bool f.on) from by exact cell_of b0 4 rfl)
  have t5 := KW.cell (show W.cell? ⟨w.heap.size, 5, none⟩ = some (.string f.fl) from by exact cell_of b0 5 rfl)
  have t6 := KW.cell (show W.cell? ⟨w.heap.size, 6, none⟩ = some (.int .i64 f.e.o) from by exact cell_of b0 6 rfl)
  have t7 := KW.cell (show W.cell? ⟨w.heap.size, 7, none⟩ = some (.int .i64 f.e.s) from by exact cell_of b0 7 rfl)
  have t8 := KW.cell (show W.cell? ⟨w.heap.size, 8, none⟩ = some (.string f.e.t) from by exact cell_of b0 8 rfl)
  have t9 := KW.cell (show W.cell? ⟨w.heap.size, 9, none⟩ = some (.string f.e.l) from by exact cell_of b0 9 rfl)
  have t10 := KW.cell (show W.cell? ⟨w.heap.size, 10, none⟩ = some (.int .i64 f.e.d) from by exact cell_of b0 10 rfl)
  have t11 := KW.cell (show W.cell? ⟨w.heap.size, 11, none⟩ = some (.slice av f.ms.length cap) from by exact cell_of b0 11 rfl)
  unfold evv at CE
  unfold frv frc
  unfold frc at hW
  rw [hk] at hW ⊢
  rw [hms0] at hW t11 ⊢
  rw [show ([] : List Ev.M).length = 0 from rfl] at hW t11 ⊢
  obtain ⟨p0, hp0⟩ : ∃ p : KW W, p.v = W := ⟨⟨W, Kept.refl W⟩, rfl⟩
  clear hf hf0 b0 k0 hR
  go_enter Tryz.func11, Tryz.ntmps11
  go_wp2_with fail
  rw [← hW, ← hp0]
  refine (CI.out _ _ _ _).mono ?_
  rintro r _ ⟨rfl, p1, rfl⟩
  clear hW hp0
  go_wp2_with (first
    | (go_at_call 25; refine (CI.out _ _ _ _).mono ?_; rintro r _ ⟨rfl, q, rfl⟩)
    | (go_at_call 26; refine (CS.out _).mono ?_; rintro r _ ⟨rfl, q, rfl⟩)
    | (go_at_call 27; refine (CE.out _).mono ?_; rintro r _ ⟨rfl, q, rfl⟩)
    | (go_at_call 28; refine (CF.out _).mono ?_; rintro r _ ⟨rfl, q, rfl⟩))
  all_goals go_ret
  all_goals refine ⟨?_, K0.out.trans (KW.h _)⟩
  all_goals (first
    | exact e_no HR.out (n3_0 f hk) (by assumption)
    | exact e_no HR.out (n3_1 f hk) (by assumption)
    | exact e_no HR.out (n3_2 f hk) (by assumption)
    | exact e_no HR.out (n3_3 f hk) (by assumption)
    | exact e_no HR.out (n3_4 f hk) (by assumption)
    | exact e_no HR.out (n3_5 f hk) (by assumption)
    | exact e_is HR.out (pk3 f hk (by assumption) (by assumption) (by assumption) (by assumption) (by assumption) (by assumption) (by assumption)))

set_option maxHeartbeats 4000000 in
set_option maxRecDepth 100000 in
theorem rright7_4 (f : Fr.F) (av : Option Addr) (cap : Nat) (w : World) (hf : FrS w f av cap) (hk : f.k = 4) (hms0 : f.ms = []) :
    Calls Tryz.prog 11 #[frv f av cap] w fun r w' => r = .returned (.bool (Fr.right f)) ∧ Kept w w' := by
  have b0 := Blk.made w (frc f av cap) 26
  have k0 : Kept w (w.alloc (.cells (frc f av cap) 26)) := (Kept.refl w).alloc _
  obtain ⟨W, hW⟩ : ∃ W, W = w.alloc (.cells (frc f av cap) 26) := ⟨_, rfl⟩
  rw [← hW] at b0 k0
  have hf0 := hf.kept k0
  have CI : Hid (∀ (p : KW W) (n a b : Int), Calls Tryz.prog 25 #[.int .i64 n, .int .i64 a, .int .i64 b] p.v fun r w' => r = .returned (.bool (decide (a ≤ n ∧ n ≤ b))) ∧ ∃ q : KW W, w' = q.v) := fun p n a b => KW.calls p (rin7_any n a b p.v)
  have CS : Hid (∀ p : KW W, Calls Tryz.prog 26 #[.slice av f.ms.length cap] p.v fun r w' => r = .returned (.bool (Ev.sorted f.ms)) ∧ ∃ q : KW W, w' = q.v) := fun p => KW.calls p (rsorted_any av cap f.ms p.v (hf0.ms.kept p.h))
  have CE : Hid (∀ p : KW W, Calls Tryz.prog 27 #[evv f.e] p.v fun r w' => r = .returned (.bool (Ev.right f.e)) ∧ ∃ q : KW W, w' = q.v) := fun p => KW.calls p (rright_ev f.e p.v hf0.e (by have := hf0.et; omega))
  have CF : Hid (∀ p : KW W, Calls Tryz.prog 28 #[.string f.fl] p.v fun r w' => r = .returned (.bool (Tp.filter f.fl.data.toList)) ∧ ∃ q : KW W, w' = q.v) := fun p => KW.calls p (rfilter_any f.fl p.v (by have := hf0.fl; omega))
  obtain ⟨R, hR⟩ : ∃ R, R = Fr.right f := ⟨_, rfl⟩
  rw [← hR]
  have HR := Lib.hid hR
  have K0 := Lib.hid k0
  have t0 := KW.cell (show W.cell? ⟨w.heap.size, 0, none⟩ = some (.int .i64 4) from by rw [show (4 : Int) = f.k from hk.symm]; exact cell_of b0 0 rfl)
  have t1 := KW.cell (show W.cell? ⟨w.heap.size, 1, none⟩ = some (.int .i64 f.ep) from by exact cell_of b0 1 rfl)
  have t2 := KW.cell (show W.cell? ⟨w.heap.size, 2, none⟩ = some (.int .i64 f.sq) from by exact cell_of b0 2 rfl)
  have t3 := KW.cell (show W.cell? ⟨w.heap.size, 3, none⟩ = some (.int .i64 f.cr) from by exact cell_of b0 3 rfl)
  have t4 := KW.cell (show W.cell? ⟨w.heap.size, 4, none⟩ = some (.bool f.on) from by exact cell_of b0 4 rfl)
  have t5 := KW.cell (show W.cell? ⟨w.heap.size, 5, none⟩ = some (.string f.fl) from by exact cell_of b0 5 rfl)
  have t6 := KW.cell (show W.cell? ⟨w.heap.size, 6, none⟩ = some (.int .i64 f.e.o) from by exact cell_of b0 6 rfl)
  have t7 := KW.cell (show W.cell? ⟨w.heap.size, 7, none⟩ = some (.int .i64 f.e.s) from by exact cell_of b0 7 rfl)
  have t8 := KW.cell (show W.cell? ⟨w.heap.size, 8, none⟩ = some (.string f.e.t) from by exact cell_of b0 8 rfl)
  have t9 := KW.cell (show W.cell? ⟨w.heap.size, 9, none⟩ = some (.string f.e.l) from by exact cell_of b0 9 rfl)
  have t10 := KW.cell (show W.cell? ⟨w.heap.size, 10, none⟩ = some (.int .i64 f.e.d) from by exact cell_of b0 10 rfl)
  have t11 := KW.cell (show W.cell? ⟨w.heap.size, 11, none⟩ = some (.slice av f.ms.length cap) from by exact cell_of b0 11 rfl)
  unfold evv at CE
  unfold frv frc
  unfold frc at hW
  rw [hk] at hW ⊢
  rw [hms0] at hW t11 ⊢
  rw [show ([] : List Ev.M).length = 0 from rfl] at hW t11 ⊢
  obtain ⟨p0, hp0⟩ : ∃ p : KW W, p.v = W := ⟨⟨W, Kept.refl W⟩, rfl⟩
  clear hf hf0 b0 k0 hR
  go_enter Tryz.func11, Tryz.ntmps11
  go_wp2_with fail
  rw [← hW, ← hp0]
  refine (CI.out _ _ _ _).mono ?_
  rintro r _ ⟨rfl, p1, rfl⟩
  clear hW hp0
  go_wp2_with (first
    | (go_at_call 25; refine (CI.out _ _ _ _).mono ?_; rintro r _ ⟨rfl, q, rfl⟩)
    | (go_at_call 26; refine (CS.out _).mono ?_; rintro r _ ⟨rfl, q, rfl⟩)
    | (go_at_call 27; refine (CE.out _).mono ?_; rintro r _ ⟨rfl, q, rfl⟩)
    | (go_at_call 28; refine (CF.out _).mono ?_; rintro r _ ⟨rfl, q, rfl⟩))
  all_goals go_ret
  all_goals refine ⟨?_, K0.out.trans (KW.h _)⟩
  all_goals (first
    | exact e_no HR.out (n4_0 f hk) (by assumption)
    | exact e_no HR.out (n4_1 f hk) (by assumption)
    | exact e_no HR.out (n4_2 f hk) (by assumption)
    | exact e_no HR.out (n4_3 f hk) (by assumption)
    | exact e_no HR.out (n4_4 f hk) (by assumption)
    | exact e_no HR.out (n4_5 f hk) (by assumption)
    | exact e_no HR.out (n4_6 f hk) (by assumption)
    | exact e_no HR.out (n4_7 f hk) (by assumption)
    | exact e_no HR.out (n4_8 f hk) (by assumption)
    | exact e_is HR.out (pk4 f hk (by assumption) (by assumption) (by assumption) (by assumption) (by assumption) (by assumption) (by assumption) (by assumption) (by assumption) (by assumption)))

set_option maxHeartbeats 4000000 in
set_option maxRecDepth 100000 in
theorem rright7_5 (f : Fr.F) (av : Option Addr) (cap : Nat) (w : World) (hf : FrS w f av cap) (hk : f.k = 5) (hms0 : f.ms = []) :
    Calls Tryz.prog 11 #[frv f av cap] w fun r w' => r = .returned (.bool (Fr.right f)) ∧ Kept w w' := by
  have b0 := Blk.made w (frc f av cap) 26
  have k0 : Kept w (w.alloc (.cells (frc f av cap) 26)) := (Kept.refl w).alloc _
  obtain ⟨W, hW⟩ : ∃ W, W = w.alloc (.cells (frc f av cap) 26) := ⟨_, rfl⟩
  rw [← hW] at b0 k0
  have hf0 := hf.kept k0
  have CI : Hid (∀ (p : KW W) (n a b : Int), Calls Tryz.prog 25 #[.int .i64 n, .int .i64 a, .int .i64 b] p.v fun r w' => r = .returned (.bool (decide (a ≤ n ∧ n ≤ b))) ∧ ∃ q : KW W, w' = q.v) := fun p n a b => KW.calls p (rin7_any n a b p.v)
  have CS : Hid (∀ p : KW W, Calls Tryz.prog 26 #[.slice av f.ms.length cap] p.v fun r w' => r = .returned (.bool (Ev.sorted f.ms)) ∧ ∃ q : KW W, w' = q.v) := fun p => KW.calls p (rsorted_any av cap f.ms p.v (hf0.ms.kept p.h))
  have CE : Hid (∀ p : KW W, Calls Tryz.prog 27 #[evv f.e] p.v fun r w' => r = .returned (.bool (Ev.right f.e)) ∧ ∃ q : KW W, w' = q.v) := fun p => KW.calls p (rright_ev f.e p.v hf0.e (by have := hf0.et; omega))
  have CF : Hid (∀ p : KW W, Calls Tryz.prog 28 #[.string f.fl] p.v fun r w' => r = .returned (.bool (Tp.filter f.fl.data.toList)) ∧ ∃ q : KW W, w' = q.v) := fun p => KW.calls p (rfilter_any f.fl p.v (by have := hf0.fl; omega))
  obtain ⟨R, hR⟩ : ∃ R, R = Fr.right f := ⟨_, rfl⟩
  rw [← hR]
  have HR := Lib.hid hR
  have K0 := Lib.hid k0
  have t0 := KW.cell (show W.cell? ⟨w.heap.size, 0, none⟩ = some (.int .i64 5) from by rw [show (5 : Int) = f.k from hk.symm]; exact cell_of b0 0 rfl)
  have t1 := KW.cell (show W.cell? ⟨w.heap.size, 1, none⟩ = some (.int .i64 f.ep) from by exact cell_of b0 1 rfl)
  have t2 := KW.cell (show W.cell? ⟨w.heap.size, 2, none⟩ = some (.int .i64 f.sq) from by exact cell_of b0 2 rfl)
  have t3 := KW.cell (show W.cell? ⟨w.heap.size, 3, none⟩ = some (.int .i64 f.cr) from by exact cell_of b0 3 rfl)
  have t4 := KW.cell (show W.cell? ⟨w.heap.size, 4, none⟩ = some (.bool f.on) from by exact cell_of b0 4 rfl)
  have t5 := KW.cell (show W.cell? ⟨w.heap.size, 5, none⟩ = some (.string f.fl) from by exact cell_of b0 5 rfl)
  have t6 := KW.cell (show W.cell? ⟨w.heap.size, 6, none⟩ = some (.int .i64 f.e.o) from by exact cell_of b0 6 rfl)
  have t7 := KW.cell (show W.cell? ⟨w.heap.size, 7, none⟩ = some (.int .i64 f.e.s) from by exact cell_of b0 7 rfl)
  have t8 := KW.cell (show W.cell? ⟨w.heap.size, 8, none⟩ = some (.string f.e.t) from by exact cell_of b0 8 rfl)
  have t9 := KW.cell (show W.cell? ⟨w.heap.size, 9, none⟩ = some (.string f.e.l) from by exact cell_of b0 9 rfl)
  have t10 := KW.cell (show W.cell? ⟨w.heap.size, 10, none⟩ = some (.int .i64 f.e.d) from by exact cell_of b0 10 rfl)
  have t11 := KW.cell (show W.cell? ⟨w.heap.size, 11, none⟩ = some (.slice av f.ms.length cap) from by exact cell_of b0 11 rfl)
  unfold evv at CE
  unfold frv frc
  unfold frc at hW
  rw [hk] at hW ⊢
  rw [hms0] at hW t11 ⊢
  rw [show ([] : List Ev.M).length = 0 from rfl] at hW t11 ⊢
  obtain ⟨p0, hp0⟩ : ∃ p : KW W, p.v = W := ⟨⟨W, Kept.refl W⟩, rfl⟩
  clear hf hf0 b0 k0 hR
  go_enter Tryz.func11, Tryz.ntmps11
  go_wp2_with fail
  rw [← hW, ← hp0]
  refine (CI.out _ _ _ _).mono ?_
  rintro r _ ⟨rfl, p1, rfl⟩
  clear hW hp0
  go_wp2_with (first
    | (go_at_call 25; refine (CI.out _ _ _ _).mono ?_; rintro r _ ⟨rfl, q, rfl⟩)
    | (go_at_call 26; refine (CS.out _).mono ?_; rintro r _ ⟨rfl, q, rfl⟩)
    | (go_at_call 27; refine (CE.out _).mono ?_; rintro r _ ⟨rfl, q, rfl⟩)
    | (go_at_call 28; refine (CF.out _).mono ?_; rintro r _ ⟨rfl, q, rfl⟩))
  all_goals go_ret
  all_goals refine ⟨?_, K0.out.trans (KW.h _)⟩
  all_goals (first
    | exact e_no HR.out (n5_0 f hk) (by assumption)
    | exact e_no HR.out (n5_1 f hk) (by assumption)
    | exact e_no HR.out (n5_2 f hk) (by assumption)
    | exact e_no HR.out (n5_3 f hk) (by assumption)
    | exact e_no HR.out (n5_4 f hk) (by assumption)
    | exact e_no HR.out (n5_5 f hk) (by assumption)
    | exact e_no HR.out (n5_6 f hk) (by assumption)
    | exact e_no HR.out (n5_7 f hk) (by assumption)
    | exact e_no HR.out (n5_8 f hk) (by assumption)
    | exact e_is HR.out (pk5 f hk (by assumption) (by assumption) (by assumption) (by assumption) (by assumption) (by assumption) (by assumption) (by assumption) (by assumption) (by assumption)))

set_option maxHeartbeats 4000000 in
set_option maxRecDepth 100000 in
theorem rright7_6 (f : Fr.F) (av : Option Addr) (cap : Nat) (w : World) (hf : FrS w f av cap) (hk : f.k = 6) (hms0 : f.ms = []) :
    Calls Tryz.prog 11 #[frv f av cap] w fun r w' => r = .returned (.bool (Fr.right f)) ∧ Kept w w' := by
  have b0 := Blk.made w (frc f av cap) 26
  have k0 : Kept w (w.alloc (.cells (frc f av cap) 26)) := (Kept.refl w).alloc _
  obtain ⟨W, hW⟩ : ∃ W, W = w.alloc (.cells (frc f av cap) 26) := ⟨_, rfl⟩
  rw [← hW] at b0 k0
  have hf0 := hf.kept k0
  have CI : Hid (∀ (p : KW W) (n a b : Int), Calls Tryz.prog 25 #[.int .i64 n, .int .i64 a, .int .i64 b] p.v fun r w' => r = .returned (.bool (decide (a ≤ n ∧ n ≤ b))) ∧ ∃ q : KW W, w' = q.v) := fun p n a b => KW.calls p (rin7_any n a b p.v)
  have CS : Hid (∀ p : KW W, Calls Tryz.prog 26 #[.slice av f.ms.length cap] p.v fun r w' => r = .returned (.bool (Ev.sorted f.ms)) ∧ ∃ q : KW W, w' = q.v) := fun p => KW.calls p (rsorted_any av cap f.ms p.v (hf0.ms.kept p.h))
  have CE : Hid (∀ p : KW W, Calls Tryz.prog 27 #[evv f.e] p.v fun r w' => r = .returned (.bool (Ev.right f.e)) ∧ ∃ q : KW W, w' = q.v) := fun p => KW.calls p (rright_ev f.e p.v hf0.e (by have := hf0.et; omega))
  have CF : Hid (∀ p : KW W, Calls Tryz.prog 28 #[.string f.fl] p.v fun r w' => r = .returned (.bool (Tp.filter f.fl.data.toList)) ∧ ∃ q : KW W, w' = q.v) := fun p => KW.calls p (rfilter_any f.fl p.v (by have := hf0.fl; omega))
  obtain ⟨R, hR⟩ : ∃ R, R = Fr.right f := ⟨_, rfl⟩
  rw [← hR]
  have HR := Lib.hid hR
  have K0 := Lib.hid k0
  have t0 := KW.cell (show W.cell? ⟨w.heap.size, 0, none⟩ = some (.int .i64 6) from by rw [show (6 : Int) = f.k from hk.symm]; exact cell_of b0 0 rfl)
  have t1 := KW.cell (show W.cell? ⟨w.heap.size, 1, none⟩ = some (.int .i64 f.ep) from by exact cell_of b0 1 rfl)
  have t2 := KW.cell (show W.cell? ⟨w.heap.size, 2, none⟩ = some (.int .i64 f.sq) from by exact cell_of b0 2 rfl)
  have t3 := KW.cell (show W.cell? ⟨w.heap.size, 3, none⟩ = some (.int .i64 f.cr) from by exact cell_of b0 3 rfl)
  have t4 := KW.cell (show W.cell? ⟨w.heap.size, 4, none⟩ = some (.bool f.on) from by exact cell_of b0 4 rfl)
  have t5 := KW.cell (show W.cell? ⟨w.heap.size, 5, none⟩ = some (.string f.fl) from by exact cell_of b0 5 rfl)
  have t6 := KW.cell (show W.cell? ⟨w.heap.size, 6, none⟩ = some (.int .i64 f.e.o) from by exact cell_of b0 6 rfl)
  have t7 := KW.cell (show W.cell? ⟨w.heap.size, 7, none⟩ = some (.int .i64 f.e.s) from by exact cell_of b0 7 rfl)
  have t8 := KW.cell (show W.cell? ⟨w.heap.size, 8, none⟩ = some (.string f.e.t) from by exact cell_of b0 8 rfl)
  have t9 := KW.cell (show W.cell? ⟨w.heap.size, 9, none⟩ = some (.string f.e.l) from by exact cell_of b0 9 rfl)
  have t10 := KW.cell (show W.cell? ⟨w.heap.size, 10, none⟩ = some (.int .i64 f.e.d) from by exact cell_of b0 10 rfl)
  have t11 := KW.cell (show W.cell? ⟨w.heap.size, 11, none⟩ = some (.slice av f.ms.length cap) from by exact cell_of b0 11 rfl)
  unfold evv at CE
  unfold frv frc
  unfold frc at hW
  rw [hk] at hW ⊢
  rw [hms0] at hW t11 ⊢
  rw [show ([] : List Ev.M).length = 0 from rfl] at hW t11 ⊢
  obtain ⟨p0, hp0⟩ : ∃ p : KW W, p.v = W := ⟨⟨W, Kept.refl W⟩, rfl⟩
  clear hf hf0 b0 k0 hR
  go_enter Tryz.func11, Tryz.ntmps11
  go_wp2_with fail
  rw [← hW, ← hp0]
  refine (CI.out _ _ _ _).mono ?_
  rintro r _ ⟨rfl, p1, rfl⟩
  clear hW hp0
  go_wp2_with (first
    | (go_at_call 25; refine (CI.out _ _ _ _).mono ?_; rintro r _ ⟨rfl, q, rfl⟩)
    | (go_at_call 26; refine (CS.out _).mono ?_; rintro r _ ⟨rfl, q, rfl⟩)
    | (go_at_call 27; refine (CE.out _).mono ?_; rintro r _ ⟨rfl, q, rfl⟩)
    | (go_at_call 28; refine (CF.out _).mono ?_; rintro r _ ⟨rfl, q, rfl⟩))
  all_goals go_ret
  all_goals refine ⟨?_, K0.out.trans (KW.h _)⟩
  all_goals (first
    | exact e_no HR.out (n6_0 f hk) (by assumption)
    | exact e_no HR.out (n6_1 f hk) (by assumption)
    | exact e_no HR.out (n6_2 f hk) (by assumption)
    | exact e_no HR.out (n6_3 f hk) (by assumption)
    | exact e_no HR.out (n6_4 f hk) (by assumption)
    | exact e_no HR.out (n6_5 f hk) (by assumption)
    | exact e_no HR.out (n6_6 f hk) (by assumption)
    | exact e_no HR.out (n6_7 f hk) (by assumption)
    | exact e_is HR.out (pk6 f hk (by assumption) (by assumption) (by assumption) (by assumption) (by assumption) (by assumption) (by assumption) (by assumption) (by assumption)))

set_option maxHeartbeats 4000000 in
set_option maxRecDepth 100000 in
theorem rright7_3m (f : Fr.F) (av : Option Addr) (cap : Nat) (w : World) (hf : FrS w f av cap) (hk : f.k = 3) (hms0 : 0 < f.ms.length) :
    Calls Tryz.prog 11 #[frv f av cap] w fun r w' => r = .returned (.bool (Fr.right f)) ∧ Kept w w' := by
  have b0 := Blk.made w (frc f av cap) 26
  have k0 : Kept w (w.alloc (.cells (frc f av cap) 26)) := (Kept.refl w).alloc _
  obtain ⟨W, hW⟩ : ∃ W, W = w.alloc (.cells (frc f av cap) 26) := ⟨_, rfl⟩
  rw [← hW] at b0 k0
  have hf0 := hf.kept k0
  have CI : Hid (∀ (p : KW W) (n a b : Int), Calls Tryz.prog 25 #[.int .i64 n, .int .i64 a, .int .i64 b] p.v fun r w' => r = .returned (.bool (decide (a ≤ n ∧ n ≤ b))) ∧ ∃ q : KW W, w' = q.v) := fun p n a b => KW.calls p (rin7_any n a b p.v)
  have CS : Hid (∀ p : KW W, Calls Tryz.prog 26 #[.slice av f.ms.length cap] p.v fun r w' => r = .returned (.bool (Ev.sorted f.ms)) ∧ ∃ q : KW W, w' = q.v) := fun p => KW.calls p (rsorted_any av cap f.ms p.v (hf0.ms.kept p.h))
  have CE : Hid (∀ p : KW W, Calls Tryz.prog 27 #[evv f.e] p.v fun r w' => r = .returned (.bool (Ev.right f.e)) ∧ ∃ q : KW W, w' = q.v) := fun p => KW.calls p (rright_ev f.e p.v hf0.e (by have := hf0.et; omega))
  have CF : Hid (∀ p : KW W, Calls Tryz.prog 28 #[.string f.fl] p.v fun r w' => r = .returned (.bool (Tp.filter f.fl.data.toList)) ∧ ∃ q : KW W, w' = q.v) := fun p => KW.calls p (rfilter_any f.fl p.v (by have := hf0.fl; omega))
  obtain ⟨R, hR⟩ : ∃ R, R = Fr.right f := ⟨_, rfl⟩
  rw [← hR]
  have HR := Lib.hid hR
  have K0 := Lib.hid k0
  have t0 := KW.cell (show W.cell? ⟨w.heap.size, 0, none⟩ = some (.int .i64 3) from by rw [show (3 : Int) = f.k from hk.symm]; exact cell_of b0 0 rfl)
  have t1 := KW.cell (show W.cell? ⟨w.heap.size, 1, none⟩ = some (.int .i64 f.ep) from by exact cell_of b0 1 rfl)
  have t2 := KW.cell (show W.cell? ⟨w.heap.size, 2, none⟩ = some (.int .i64 f.sq) from by exact cell_of b0 2 rfl)
  have t3 := KW.cell (show W.cell? ⟨w.heap.size, 3, none⟩ = some (.int .i64 f.cr) from by exact cell_of b0 3 rfl)
  have t4 := KW.cell (show W.cell? ⟨w.heap.size, 4, none⟩ = some (.bool f.on) from by exact cell_of b0 4 rfl)
  have t5 := KW.cell (show W.cell? ⟨w.heap.size, 5, none⟩ = some (.string f.fl) from by exact cell_of b0 5 rfl)
  have t6 := KW.cell (show W.cell? ⟨w.heap.size, 6, none⟩ = some (.int .i64 f.e.o) from by exact cell_of b0 6 rfl)
  have t7 := KW.cell (show W.cell? ⟨w.heap.size, 7, none⟩ = some (.int .i64 f.e.s) from by exact cell_of b0 7 rfl)
  have t8 := KW.cell (show W.cell? ⟨w.heap.size, 8, none⟩ = some (.string f.e.t) from by exact cell_of b0 8 rfl)
  have t9 := KW.cell (show W.cell? ⟨w.heap.size, 9, none⟩ = some (.string f.e.l) from by exact cell_of b0 9 rfl)
  have t10 := KW.cell (show W.cell? ⟨w.heap.size, 10, none⟩ = some (.int .i64 f.e.d) from by exact cell_of b0 10 rfl)
  have t11 := KW.cell (show W.cell? ⟨w.heap.size, 11, none⟩ = some (.slice av f.ms.length cap) from by exact cell_of b0 11 rfl)
  unfold evv at CE
  unfold frv frc
  unfold frc at hW
  rw [hk] at hW ⊢
  have HP := Lib.hid hms0
  obtain ⟨n, hn⟩ : ∃ n, n = f.ms.length := ⟨_, rfl⟩
  rw [← hn] at hW t11 hms0 ⊢
  clear hn
  obtain ⟨p0, hp0⟩ : ∃ p : KW W, p.v = W := ⟨⟨W, Kept.refl W⟩, rfl⟩
  clear hf hf0 b0 k0 hR
  go_enter Tryz.func11, Tryz.ntmps11
  go_wp2_with fail
  rw [← hW, ← hp0]
  refine (CI.out _ _ _ _).mono ?_
  rintro r _ ⟨rfl, p1, rfl⟩
  clear hW hp0
  go_wp2_with (first
    | (go_at_call 25; refine (CI.out _ _ _ _).mono ?_; rintro r _ ⟨rfl, q, rfl⟩)
    | (go_at_call 26; refine (CS.out _).mono ?_; rintro r _ ⟨rfl, q, rfl⟩)
    | (go_at_call 27; refine (CE.out _).mono ?_; rintro r _ ⟨rfl, q, rfl⟩)
    | (go_at_call 28; refine (CF.out _).mono ?_; rintro r _ ⟨rfl, q, rfl⟩))
  all_goals go_ret
  all_goals refine ⟨?_, K0.out.trans (KW.h _)⟩
  all_goals exact e_no HR.out (n3_m f hk) HP.out

set_option maxHeartbeats 4000000 in
set_option maxRecDepth 100000 in
theorem rright7_4m (f : Fr.F) (av : Option Addr) (cap : Nat) (w : World) (hf : FrS w f av cap) (hk : f.k = 4) (hms0 : 0 < f.ms.length) :
    Calls Tryz.prog 11 #[frv f av cap] w fun r w' => r = .returned (.bool (Fr.right f)) ∧ Kept w w' := by
  have b0 := Blk.made w (frc f av cap) 26
  have k0 : Kept w (w.alloc (.cells (frc f av cap) 26)) := (Kept.refl w).alloc _
  obtain ⟨W, hW⟩ : ∃ W, W = w.alloc (.cells (frc f av cap) 26) := ⟨_, rfl⟩
  rw [← hW] at b0 k0
  have hf0 := hf.kept k0
  have CI : Hid (∀ (p : KW W) (n a b : Int), Calls Tryz.prog 25 #[.int .i64 n, .int .i64 a, .int .i64 b] p.v fun r w' => r = .returned (.bool (decide (a ≤ n ∧ n ≤ b))) ∧ ∃ q : KW W, w' = q.v) := fun p n a b => KW.calls p (rin7_any n a b p.v)
  have CS : Hid (∀ p : KW W, Calls Tryz.prog 26 #[.slice av f.ms.length cap] p.v fun r w' => r = .returned (.bool (Ev.sorted f.ms)) ∧ ∃ q : KW W, w' = q.v) := fun p => KW.calls p (rsorted_any av cap f.ms p.v (hf0.ms.kept p.h))
  have CE : Hid (∀ p : KW W, Calls Tryz.prog 27 #[evv f.e] p.v fun r w' => r = .returned (.bool (Ev.right f.e)) ∧ ∃ q : KW W, w' = q.v) := fun p => KW.calls p (rright_ev f.e p.v hf0.e (by have := hf0.et; omega))
  have CF : Hid (∀ p : KW W, Calls Tryz.prog 28 #[.string f.fl] p.v fun r w' => r = .returned (.bool (Tp.filter f.fl.data.toList)) ∧ ∃ q : KW W, w' = q.v) := fun p => KW.calls p (rfilter_any f.fl p.v (by have := hf0.fl; omega))
  obtain ⟨R, hR⟩ : ∃ R, R = Fr.right f := ⟨_, rfl⟩
  rw [← hR]
  have HR := Lib.hid hR
  have K0 := Lib.hid k0
  have t0 := KW.cell (show W.cell? ⟨w.heap.size, 0, none⟩ = some (.int .i64 4) from by rw [show (4 : Int) = f.k from hk.symm]; exact cell_of b0 0 rfl)
  have t1 := KW.cell (show W.cell? ⟨w.heap.size, 1, none⟩ = some (.int .i64 f.ep) from by exact cell_of b0 1 rfl)
  have t2 := KW.cell (show W.cell? ⟨w.heap.size, 2, none⟩ = some (.int .i64 f.sq) from by exact cell_of b0 2 rfl)
  have t3 := KW.cell (show W.cell? ⟨w.heap.size, 3, none⟩ = some (.int .i64 f.cr) from by exact cell_of b0 3 rfl)
  have t4 := KW.cell (show W.cell? ⟨w.heap.size, 4, none⟩ = some (.bool f.on) from by exact cell_of b0 4 rfl)
  have t5 := KW.cell (show W.cell? ⟨w.heap.size, 5, none⟩ = some (.string f.fl) from by exact cell_of b0 5 rfl)
  have t6 := KW.cell (show W.cell? ⟨w.heap.size, 6, none⟩ = some (.int .i64 f.e.o) from by exact cell_of b0 6 rfl)
  have t7 := KW.cell (show W.cell? ⟨w.heap.size, 7, none⟩ = some (.int .i64 f.e.s) from by exact cell_of b0 7 rfl)
  have t8 := KW.cell (show W.cell? ⟨w.heap.size, 8, none⟩ = some (.string f.e.t) from by exact cell_of b0 8 rfl)
  have t9 := KW.cell (show W.cell? ⟨w.heap.size, 9, none⟩ = some (.string f.e.l) from by exact cell_of b0 9 rfl)
  have t10 := KW.cell (show W.cell? ⟨w.heap.size, 10, none⟩ = some (.int .i64 f.e.d) from by exact cell_of b0 10 rfl)
  have t11 := KW.cell (show W.cell? ⟨w.heap.size, 11, none⟩ = some (.slice av f.ms.length cap) from by exact cell_of b0 11 rfl)
  unfold evv at CE
  unfold frv frc
  unfold frc at hW
  rw [hk] at hW ⊢
  have HP := Lib.hid hms0
  obtain ⟨n, hn⟩ : ∃ n, n = f.ms.length := ⟨_, rfl⟩
  rw [← hn] at hW t11 hms0 ⊢
  clear hn
  obtain ⟨p0, hp0⟩ : ∃ p : KW W, p.v = W := ⟨⟨W, Kept.refl W⟩, rfl⟩
  clear hf hf0 b0 k0 hR
  go_enter Tryz.func11, Tryz.ntmps11
  go_wp2_with fail
  rw [← hW, ← hp0]
  refine (CI.out _ _ _ _).mono ?_
  rintro r _ ⟨rfl, p1, rfl⟩
  clear hW hp0
  go_wp2_with (first
    | (go_at_call 25; refine (CI.out _ _ _ _).mono ?_; rintro r _ ⟨rfl, q, rfl⟩)
    | (go_at_call 26; refine (CS.out _).mono ?_; rintro r _ ⟨rfl, q, rfl⟩)
    | (go_at_call 27; refine (CE.out _).mono ?_; rintro r _ ⟨rfl, q, rfl⟩)
    | (go_at_call 28; refine (CF.out _).mono ?_; rintro r _ ⟨rfl, q, rfl⟩))
  all_goals go_ret
  all_goals refine ⟨?_, K0.out.trans (KW.h _)⟩
  all_goals exact e_no HR.out (n4_m f hk) HP.out

set_option maxHeartbeats 4000000 in
set_option maxRecDepth 100000 in
theorem rright7_5m (f : Fr.F) (av : Option Addr) (cap : Nat) (w : World) (hf : FrS w f av cap) (hk : f.k = 5) (hms0 : 0 < f.ms.length) :
    Calls Tryz.prog 11 #[frv f av cap] w fun r w' => r = .returned (.bool (Fr.right f)) ∧ Kept w w' := by
  have b0 := Blk.made w (frc f av cap) 26
  have k0 : Kept w (w.alloc (.cells (frc f av cap) 26)) := (Kept.refl w).alloc _
  obtain ⟨W, hW⟩ : ∃ W, W = w.alloc (.cells (frc f av cap) 26) := ⟨_, rfl⟩
  rw [← hW] at b0 k0
  have hf0 := hf.kept k0
  have CI : Hid (∀ (p : KW W) (n a b : Int), Calls Tryz.prog 25 #[.int .i64 n, .int .i64 a, .int .i64 b] p.v fun r w' => r = .returned (.bool (decide (a ≤ n ∧ n ≤ b))) ∧ ∃ q : KW W, w' = q.v) := fun p n a b => KW.calls p (rin7_any n a b p.v)
  have CS : Hid (∀ p : KW W, Calls Tryz.prog 26 #[.slice av f.ms.length cap] p.v fun r w' => r = .returned (.bool (Ev.sorted f.ms)) ∧ ∃ q : KW W, w' = q.v) := fun p => KW.calls p (rsorted_any av cap f.ms p.v (hf0.ms.kept p.h))
  have CE : Hid (∀ p : KW W, Calls Tryz.prog 27 #[evv f.e] p.v fun r w' => r = .returned (.bool (Ev.right f.e)) ∧ ∃ q : KW W, w' = q.v) := fun p => KW.calls p (rright_ev f.e p.v hf0.e (by have := hf0.et; omega))
  have CF : Hid (∀ p : KW W, Calls Tryz.prog 28 #[.string f.fl] p.v fun r w' => r = .returned (.bool (Tp.filter f.fl.data.toList)) ∧ ∃ q : KW W, w' = q.v) := fun p => KW.calls p (rfilter_any f.fl p.v (by have := hf0.fl; omega))
  obtain ⟨R, hR⟩ : ∃ R, R = Fr.right f := ⟨_, rfl⟩
  rw [← hR]
  have HR := Lib.hid hR
  have K0 := Lib.hid k0
  have t0 := KW.cell (show W.cell? ⟨w.heap.size, 0, none⟩ = some (.int .i64 5) from by rw [show (5 : Int) = f.k from hk.symm]; exact cell_of b0 0 rfl)
  have t1 := KW.cell (show W.cell? ⟨w.heap.size, 1, none⟩ = some (.int .i64 f.ep) from by exact cell_of b0 1 rfl)
  have t2 := KW.cell (show W.cell? ⟨w.heap.size, 2, none⟩ = some (.int .i64 f.sq) from by exact cell_of b0 2 rfl)
  have t3 := KW.cell (show W.cell? ⟨w.heap.size, 3, none⟩ = some (.int .i64 f.cr) from by exact cell_of b0 3 rfl)
  have t4 := KW.cell (show W.cell? ⟨w.heap.size, 4, none⟩ = some (.bool f.on) from by exact cell_of b0 4 rfl)
  have t5 := KW.cell (show W.cell? ⟨w.heap.size, 5, none⟩ = some (.string f.fl) from by exact cell_of b0 5 rfl)
  have t6 := KW.cell (show W.cell? ⟨w.heap.size, 6, none⟩ = some (.int .i64 f.e.o) from by exact cell_of b0 6 rfl)
  have t7 := KW.cell (show W.cell? ⟨w.heap.size, 7, none⟩ = some (.int .i64 f.e.s) from by exact cell_of b0 7 rfl)
  have t8 := KW.cell (show W.cell? ⟨w.heap.size, 8, none⟩ = some (.string f.e.t) from by exact cell_of b0 8 rfl)
  have t9 := KW.cell (show W.cell? ⟨w.heap.size, 9, none⟩ = some (.string f.e.l) from by exact cell_of b0 9 rfl)
  have t10 := KW.cell (show W.cell? ⟨w.heap.size, 10, none⟩ = some (.int .i64 f.e.d) from by exact cell_of b0 10 rfl)
  have t11 := KW.cell (show W.cell? ⟨w.heap.size, 11, none⟩ = some (.slice av f.ms.length cap) from by exact cell_of b0 11 rfl)
  unfold evv at CE
  unfold frv frc
  unfold frc at hW
  rw [hk] at hW ⊢
  have HP := Lib.hid hms0
  obtain ⟨n, hn⟩ : ∃ n, n = f.ms.length := ⟨_, rfl⟩
  rw [← hn] at hW t11 hms0 ⊢
  clear hn
  obtain ⟨p0, hp0⟩ : ∃ p : KW W, p.v = W := ⟨⟨W, Kept.refl W⟩, rfl⟩
  clear hf hf0 b0 k0 hR
  go_enter Tryz.func11, Tryz.ntmps11
  go_wp2_with fail
  rw [← hW, ← hp0]
  refine (CI.out _ _ _ _).mono ?_
  rintro r _ ⟨rfl, p1, rfl⟩
  clear hW hp0
  go_wp2_with (first
    | (go_at_call 25; refine (CI.out _ _ _ _).mono ?_; rintro r _ ⟨rfl, q, rfl⟩)
    | (go_at_call 26; refine (CS.out _).mono ?_; rintro r _ ⟨rfl, q, rfl⟩)
    | (go_at_call 27; refine (CE.out _).mono ?_; rintro r _ ⟨rfl, q, rfl⟩)
    | (go_at_call 28; refine (CF.out _).mono ?_; rintro r _ ⟨rfl, q, rfl⟩))
  all_goals go_ret
  all_goals refine ⟨?_, K0.out.trans (KW.h _)⟩
  all_goals exact e_no HR.out (n5_m f hk) HP.out

set_option maxHeartbeats 4000000 in
set_option maxRecDepth 100000 in
theorem rright7_6m (f : Fr.F) (av : Option Addr) (cap : Nat) (w : World) (hf : FrS w f av cap) (hk : f.k = 6) (hms0 : 0 < f.ms.length) :
    Calls Tryz.prog 11 #[frv f av cap] w fun r w' => r = .returned (.bool (Fr.right f)) ∧ Kept w w' := by
  have b0 := Blk.made w (frc f av cap) 26
  have k0 : Kept w (w.alloc (.cells (frc f av cap) 26)) := (Kept.refl w).alloc _
  obtain ⟨W, hW⟩ : ∃ W, W = w.alloc (.cells (frc f av cap) 26) := ⟨_, rfl⟩
  rw [← hW] at b0 k0
  have hf0 := hf.kept k0
  have CI : Hid (∀ (p : KW W) (n a b : Int), Calls Tryz.prog 25 #[.int .i64 n, .int .i64 a, .int .i64 b] p.v fun r w' => r = .returned (.bool (decide (a ≤ n ∧ n ≤ b))) ∧ ∃ q : KW W, w' = q.v) := fun p n a b => KW.calls p (rin7_any n a b p.v)
  have CS : Hid (∀ p : KW W, Calls Tryz.prog 26 #[.slice av f.ms.length cap] p.v fun r w' => r = .returned (.bool (Ev.sorted f.ms)) ∧ ∃ q : KW W, w' = q.v) := fun p => KW.calls p (rsorted_any av cap f.ms p.v (hf0.ms.kept p.h))
  have CE : Hid (∀ p : KW W, Calls Tryz.prog 27 #[evv f.e] p.v fun r w' => r = .returned (.bool (Ev.right f.e)) ∧ ∃ q : KW W, w' = q.v) := fun p => KW.calls p (rright_ev f.e p.v hf0.e (by have := hf0.et; omega))
  have CF : Hid (∀ p : KW W, Calls Tryz.prog 28 #[.string f.fl] p.v fun r w' => r = .returned (.bool (Tp.filter f.fl.data.toList)) ∧ ∃ q : KW W, w' = q.v) := fun p => KW.calls p (rfilter_any f.fl p.v (by have := hf0.fl; omega))
  obtain ⟨R, hR⟩ : ∃ R, R = Fr.right f := ⟨_, rfl⟩
  rw [← hR]
  have HR := Lib.hid hR
  have K0 := Lib.hid k0
  have t0 := KW.cell (show W.cell? ⟨w.heap.size, 0, none⟩ = some (.int .i64 6) from by rw [show (6 : Int) = f.k from hk.symm]; exact cell_of b0 0 rfl)
  have t1 := KW.cell (show W.cell? ⟨w.heap.size, 1, none⟩ = some (.int .i64 f.ep) from by exact cell_of b0 1 rfl)
  have t2 := KW.cell (show W.cell? ⟨w.heap.size, 2, none⟩ = some (.int .i64 f.sq) from by exact cell_of b0 2 rfl)
  have t3 := KW.cell (show W.cell? ⟨w.heap.size, 3, none⟩ = some (.int .i64 f.cr) from by exact cell_of b0 3 rfl)
  have t4 := KW.cell (show W.cell? ⟨w.heap.size, 4, none⟩ = some (.bool f.on) from by exact cell_of b0 4 rfl)
  have t5 := KW.cell (show W.cell? ⟨w.heap.size, 5, none⟩ = some (.string f.fl) from by exact cell_of b0 5 rfl)
  have t6 := KW.cell (show W.cell? ⟨w.heap.size, 6, none⟩ = some (.int .i64 f.e.o) from by exact cell_of b0 6 rfl)
  have t7 := KW.cell (show W.cell? ⟨w.heap.size, 7, none⟩ = some (.int .i64 f.e.s) from by exact cell_of b0 7 rfl)
  have t8 := KW.cell (show W.cell? ⟨w.heap.size, 8, none⟩ = some (.string f.e.t) from by exact cell_of b0 8 rfl)
  have t9 := KW.cell (show W.cell? ⟨w.heap.size, 9, none⟩ = some (.string f.e.l) from by exact cell_of b0 9 rfl)
  have t10 := KW.cell (show W.cell? ⟨w.heap.size, 10, none⟩ = some (.int .i64 f.e.d) from by exact cell_of b0 10 rfl)
  have t11 := KW.cell (show W.cell? ⟨w.heap.size, 11, none⟩ = some (.slice av f.ms.length cap) from by exact cell_of b0 11 rfl)
  unfold evv at CE
  unfold frv frc
  unfold frc at hW
  rw [hk] at hW ⊢
  have HP := Lib.hid hms0
  obtain ⟨n, hn⟩ : ∃ n, n = f.ms.length := ⟨_, rfl⟩
  rw [← hn] at hW t11 hms0 ⊢
  clear hn
  obtain ⟨p0, hp0⟩ : ∃ p : KW W, p.v = W := ⟨⟨W, Kept.refl W⟩, rfl⟩
  clear hf hf0 b0 k0 hR
  go_enter Tryz.func11, Tryz.ntmps11
  go_wp2_with fail
  rw [← hW, ← hp0]
  refine (CI.out _ _ _ _).mono ?_
  rintro r _ ⟨rfl, p1, rfl⟩
  clear hW hp0
  go_wp2_with (first
    | (go_at_call 25; refine (CI.out _ _ _ _).mono ?_; rintro r _ ⟨rfl, q, rfl⟩)
    | (go_at_call 26; refine (CS.out _).mono ?_; rintro r _ ⟨rfl, q, rfl⟩)
    | (go_at_call 27; refine (CE.out _).mono ?_; rintro r _ ⟨rfl, q, rfl⟩)
    | (go_at_call 28; refine (CF.out _).mono ?_; rintro r _ ⟨rfl, q, rfl⟩))
  all_goals go_ret
  all_goals refine ⟨?_, K0.out.trans (KW.h _)⟩
  all_goals exact e_no HR.out (n6_m f hk) HP.out

set_option maxHeartbeats 4000000 in
set_option maxRecDepth 100000 in
theorem rright7_o (f : Fr.F) (av : Option Addr) (cap : Nat) (w : World) (hf : FrS w f av cap) (hk : f.k < 1 ∨ 6 < f.k) :
    Calls Tryz.prog 11 #[frv f av cap] w fun r w' => r = .returned (.bool (Fr.right f)) ∧ Kept w w' := by
  have b0 := Blk.made w (frc f av cap) 26
  have k0 : Kept w (w.alloc (.cells (frc f av cap) 26)) := (Kept.refl w).alloc _
  obtain ⟨W, hW⟩ : ∃ W, W = w.alloc (.cells (frc f av cap) 26) := ⟨_, rfl⟩
  rw [← hW] at b0 k0
  have hf0 := hf.kept k0
  have CI : Hid (∀ (p : KW W) (n a b : Int), Calls Tryz.prog 25 #[.int .i64 n, .int .i64 a, .int .i64 b] p.v fun r w' => r = .returned (.bool (decide (a ≤ n ∧ n ≤ b))) ∧ ∃ q : KW W, w' = q.v) := fun p n a b => KW.calls p (rin7_any n a b p.v)
  have CS : Hid (∀ p : KW W, Calls Tryz.prog 26 #[.slice av f.ms.length cap] p.v fun r w' => r = .returned (.bool (Ev.sorted f.ms)) ∧ ∃ q : KW W, w' = q.v) := fun p => KW.calls p (rsorted_any av cap f.ms p.v (hf0.ms.kept p.h))
  have CE : Hid (∀ p : KW W, Calls Tryz.prog 27 #[evv f.e] p.v fun r w' => r = .returned (.bool (Ev.right f.e)) ∧ ∃ q : KW W, w' = q.v) := fun p => KW.calls p (rright_ev f.e p.v hf0.e (by have := hf0.et; omega))
  have CF : Hid (∀ p : KW W, Calls Tryz.prog 28 #[.string f.fl] p.v fun r w' => r = .returned (.bool (Tp.filter f.fl.data.toList)) ∧ ∃ q : KW W, w' = q.v) := fun p => KW.calls p (rfilter_any f.fl p.v (by have := hf0.fl; omega))
  obtain ⟨R, hR⟩ : ∃ R, R = Fr.right f := ⟨_, rfl⟩
  rw [← hR]
  have HR := Lib.hid hR
  have K0 := Lib.hid k0
  have t0 := KW.cell (show W.cell? ⟨w.heap.size, 0, none⟩ = some (.int .i64 f.k) from by exact cell_of b0 0 rfl)
  have t1 := KW.cell (show W.cell? ⟨w.heap.size, 1, none⟩ = some (.int .i64 f.ep) from by exact cell_of b0 1 rfl)
  have t2 := KW.cell (show W.cell? ⟨w.heap.size, 2, none⟩ = some (.int .i64 f.sq) from by exact cell_of b0 2 rfl)
  have t3 := KW.cell (show W.cell? ⟨w.heap.size, 3, none⟩ = some (.int .i64 f.cr) from by exact cell_of b0 3 rfl)
  have t4 := KW.cell (show W.cell? ⟨w.heap.size, 4, none⟩ = some (.bool f.on) from by exact cell_of b0 4 rfl)
  have t5 := KW.cell (show W.cell? ⟨w.heap.size, 5, none⟩ = some (.string f.fl) from by exact cell_of b0 5 rfl)
  have t6 := KW.cell (show W.cell? ⟨w.heap.size, 6, none⟩ = some (.int .i64 f.e.o) from by exact cell_of b0 6 rfl)
  have t7 := KW.cell (show W.cell? ⟨w.heap.size, 7, none⟩ = some (.int .i64 f.e.s) from by exact cell_of b0 7 rfl)
  have t8 := KW.cell (show W.cell? ⟨w.heap.size, 8, none⟩ = some (.string f.e.t) from by exact cell_of b0 8 rfl)
  have t9 := KW.cell (show W.cell? ⟨w.heap.size, 9, none⟩ = some (.string f.e.l) from by exact cell_of b0 9 rfl)
  have t10 := KW.cell (show W.cell? ⟨w.heap.size, 10, none⟩ = some (.int .i64 f.e.d) from by exact cell_of b0 10 rfl)
  have t11 := KW.cell (show W.cell? ⟨w.heap.size, 11, none⟩ = some (.slice av f.ms.length cap) from by exact cell_of b0 11 rfl)
  unfold evv at CE
  unfold frv frc
  unfold frc at hW
  obtain ⟨p0, hp0⟩ : ∃ p : KW W, p.v = W := ⟨⟨W, Kept.refl W⟩, rfl⟩
  clear hf hf0 b0 k0 hR
  have hk0 := hk
  rcases hk with hk | hk
  · go_enter Tryz.func11, Tryz.ntmps11
    go_wp2
    go_ret
    refine ⟨?_, ?_⟩
    · rw [HR.out, ro f hk0]; rfl
    · rw [← hW]; exact K0.out
  · go_enter Tryz.func11, Tryz.ntmps11
    go_wp2
    go_ret
    refine ⟨?_, ?_⟩
    · rw [HR.out, ro f hk0]; rfl
    · rw [← hW]; exact K0.out

theorem rright7_any (f : Fr.F) (av : Option Addr) (cap : Nat) (w : World) (hf : FrS w f av cap) :
    Calls Tryz.prog 11 #[frv f av cap] w fun r w' => r = .returned (.bool (Fr.right f)) ∧ Kept w w' := by
  by_cases ho : f.k < 1 ∨ 6 < f.k
  · exact rright7_o f av cap w hf ho
  · by_cases h1 : f.k = 1
    · exact rright7_1 f av cap w hf h1
    · by_cases h2 : f.k = 2
      · exact rright7_2 f av cap w hf h2
      · by_cases hm : f.ms = []
        · by_cases h3 : f.k = 3
          · exact rright7_3 f av cap w hf h3 hm
          · by_cases h4 : f.k = 4
            · exact rright7_4 f av cap w hf h4 hm
            · by_cases h5 : f.k = 5
              · exact rright7_5 f av cap w hf h5 hm
              · exact rright7_6 f av cap w hf (by omega) hm
        · have hm' : 0 < f.ms.length := List.length_pos_iff.2 hm
          by_cases h3 : f.k = 3
          · exact rright7_3m f av cap w hf h3 hm'
          · by_cases h4 : f.k = 4
            · exact rright7_4m f av cap w hf h4 hm'
            · by_cases h5 : f.k = 5
              · exact rright7_5m f av cap w hf h5 hm'
              · exact rright7_6m f av cap w hf (by omega) hm'
end Go.Proofs.YtlfmpoinjbmjoaaGreatDoor
