/-
  The keys of a map behind a row of numbers: the walk of slices.AppendSeq over maps.Keys.
-/
import Derived.Test.YtalebnhkidhglaaGreatRleave
import Derived.Test.YtalebnhkidhglaaGreatRshelf
import Derived.RangeFuncBox
import Derived.RangeFuncKeeps
import Derived.Shelf.AbstractIn
import Derived.OwnWalkIn
import Derived.TacticsInMore
namespace Go.Proofs.YtalebnhkidhglaaGreat
open Go.ChangeShapes Go.WideShapes Go.ChangeAt Go.RowKit Go.Maps Go.Shelf

attribute [local go_sem] Oper.semAt_some

/-- numbers in a row of the call's own -/
def OwnI (w : World) (base : Nat) (v : Value) (xs : List Int) : Prop := w.ownsRow base 3 1 v xs.length (xs.map (Value.int .i64))
theorem infoInt : (Tryz.prog.info? 3).map (fun i => (i.zero, i.size, i.bytes)) = some (some (.int .i64 0), 1, 8) := by kernel_rfl
theorem one_cellI (w : World) (x : Int) : ∀ (j : Nat) (u : Value), [Value.int .i64 x][j]? = some u → (w.alloc (.cells #[.int .i64 x] 3)).cell? ((⟨w.heap.size, 0, none⟩ : Addr).add j) = some u := by
  intro j u hj
  match j, hj with
  | 0, hj => simp at hj; subst hj; simp [Addr.add]
theorem one_oneI (x : Int) : ∀ u ∈ [Value.int .i64 x], u.oneCell' = true := by
  intro u hu; simp at hu; subst hu; rfl

/-- one number more behind a row of the call's own, as an equation -/
theorem append_int (w : World) (base : Nat) (v : Value) (xs : List Int) (x : Int) (hown : OwnI w base v xs) (hx : xs.length ≤ 1000000000) (hbase : base ≤ w.heap.size) :
    ∃ g cap w1, (Builtin.append_ #[38, 38] 38 #[v, .slice (some ⟨w.heap.size, 0, none⟩) 1 1]).run Tryz.prog (w.alloc (.cells #[.int .i64 x] 3)) = .ok (.slice (some ⟨g, 0, none⟩) (xs.length + 1) cap) w1 ∧
      OwnI w1 base (.slice (some ⟨g, 0, none⟩) (xs.length + 1) cap) (xs ++ [x]) ∧ (w.alloc (.cells #[.int .i64 x] 3)).grownBy w1 v.ownBlock := by
  obtain ⟨i0, hi, hz0, hz1, hz2⟩ := info_parts infoInt
  obtain ⟨v', w1, hrun, r1, r2, _⟩ := run_append_own (P := Tryz.prog) (w.alloc (.cells #[.int .i64 x] 3)) base 38 38 3 i0 (.int .i64 0) 1 8 Tryz.underlying38 hi hz0 hz1 hz2 rfl (by decide) v xs.length (xs.map (Value.int .i64)) (World.ownsRow.alloc hown _) ⟨w.heap.size, 0, none⟩ 1 1 [.int .i64 x] rfl (one_cellI _ _) (one_oneI _) (by unfold maxLen; omega) (by omega) (by simp; omega)
  obtain ⟨g, cap, rfl⟩ : ∃ g cap, v' = .slice (some ⟨g, 0, none⟩) (xs.length + 1) cap := by
    rcases r1.2 with ⟨_, h0⟩ | ⟨g, cap, _, rfl, _⟩
    · omega
    · exact ⟨g, cap, rfl⟩
  refine ⟨g, cap, w1, hrun, ?_, r2⟩
  unfold OwnI
  rw [List.length_append, List.length_singleton, List.map_append, List.map_singleton]
  exact r1

theorem OwnI.form {w : World} {base : Nat} {v : Value} {xs : List Int} (h : OwnI w base v xs) : ∃ a cap, v = .slice a xs.length cap := by
  rcases h.2 with ⟨rfl, h0⟩ | ⟨g, cap, cur, rfl, _⟩
  · exact ⟨none, 0, by rw [h0]⟩
  · exact ⟨_, cap, rfl⟩
theorem mapInt (xs : List Int) (ks : List Int) (x : Int) : (xs ++ (ks ++ [x])).map (Value.int .i64) = (xs ++ ks).map (Value.int .i64) ++ [.int .i64 x] := by simp
theorem ownFrom_below' {β : Type} {base B : Nat} {w : World} (hb : base ≤ B) (hw : base ≤ w.heap.size) : OwnFrom B (fun (_ : β) W => Below base w W) := fun _ _ _ _ h hg hr =>
  h.grown hg (Nat.le_trans hw h.size) (fun k e => Nat.le_trans hb (hr k e).1)

set_option maxRecDepth 100000 in
set_option maxHeartbeats 2000000 in
theorem appendSeq_in (n : Nat) (hn : 4 ≤ n) (base Bm b m : Nat) (D : DataW Unit) (v0 : Value) (xs : List Int) (w : World) (hbase : base ≤ w.heap.size) (hown : OwnI w base v0 xs) (hxs : xs.length + Maps.size D ≤ 1000000)
    (hBm : Bm < w.heap.size) (hm : w.cell? ⟨Bm, 0, none⟩ = some (.map (some b))) (hD : w.ownsMap Tryz.prog 3 (plainElem Tryz.prog 3) b m D) :
    CallsIn Fence.wide n Tryz.prog 52 #[v0, .func (.func 70) #[] #[.pointer (some ⟨Bm, 0, none⟩)]] w fun e w' => ∃ v ks, e = .returned v ∧ (∀ x, x ∈ ks ↔ Maps.has D (.int .i64 x) = true) ∧ ks.length ≤ Maps.size D ∧ OwnI w' base v (xs ++ ks) ∧ Below base w w' := by
  have h1 : 1 ≤ n := by omega
  obtain ⟨i0, hi, hz0, hz1, hz2⟩ := info_parts infoInt
  have Hi := Lib.hid hi
  have Hz0 := Lib.hid hz0
  have Hz1 := Lib.hid hz1
  have Hz2 := Lib.hid hz2
  clear hi hz0 hz1 hz2
  obtain ⟨a0, cap0, rfl⟩ := hown.form
  have hD0 : (w.alloc (.cells #[.slice a0 xs.length cap0] 38)).ownsMap Tryz.prog 3 (plainElem Tryz.prog 3) b m D := hD.alloc _
  have hseq := AnyZI.keys_stops (ρ := Tryz.keysI_ren) { Tryz.keysI with } Fence.wide (n - 1) trivial rfl (by omega) Bm b m D w hBm hm hD
  have hS : ∀ ss : List Int, ss.Perm (intKeys D) → ss.length ≤ Maps.size D := by
    intro ss h
    rw [h.length_eq]
    obtain ⟨es, rfl⟩ := hD.isMap
    simp [intKeys, Maps.size]
  have HS := Lib.hid hS
  clear hS hm hD hD0
  refine callsIn_of_wp_marks Tryz.func52 rfl trivial ?_ rfl
  simp only [Tryz.ntmps52, List.size_toArray, List.length_cons, List.length_nil, Nat.reduceAdd, Nat.reduceSub, Array.replicate_succ, Array.replicate_zero, List.push_toArray, List.append_toArray, List.nil_append, List.cons_append]
  gi_wp2_with fail
  have b0 := Boxed.new w 38 (.slice a0 xs.length cap0)
  have hB0 : Below base w (w.alloc (.cells #[.slice a0 xs.length cap0] 38)) := (Below.refl _ w).alloc hbase _
  refine wpIn_rangeFunc_ownG rfl h1 (gf := 70) (lb := #[.pointer (some ⟨Bm, 0, none⟩)]) rfl trivial (enters_of Tryz.func70 (by kernel_rfl) rfl)
    (encs := fun x : Int => #[Value.int .i64 x]) (Kp := KeepsWalks) (w0 := w) hseq walksK_t walksK_b ((Below.refl _ w).alloc (Nat.le_refl _) _) (fun _ => rfl)
    (fun pre W => (∃ v, Boxed W w.heap.size 38 v ∧ W.ownsRow base 3 1 v (xs.length + pre.length) ((xs ++ pre).map (Value.int .i64)) ∧ True) ∧ Below base w W)
    (fun _ _ _ => False)
    (OwnFrom.and (Own.from (holdsRow_own base w.heap.size 38 3 1 (fun pre => xs.length + pre.length) (fun pre => (xs ++ pre).map (Value.int .i64)) (fun _ _ => True)) _) (ownFrom_below' (by simp; omega) hbase))
    (fun _ _ _ _ _ hs _ _ => hs)
    ⟨⟨_, b0, by simpa using World.ownsRow.alloc hown _, trivial⟩, hB0⟩
    (fun x => { tmps := #[.slice a0 xs.length cap0, .func (.func 70) #[] #[.pointer (some ⟨Bm, 0, none⟩)], .pointer (some ⟨w.heap.size, 0, none⟩), undef, .slice none 0 0, .int .i64 x, .func (.func 70) #[] #[.pointer (some ⟨Bm, 0, none⟩)], .int .i64 x, undef, undef, undef, undef, undef], defers := [] }) ?assign ?body ?done ?stop
  case assign =>
    intro l x W K hK
    gi_wp2
    exact hK
  case body =>
    rintro l pre x W ⟨⟨v, hv, hrow, _⟩, hB⟩ hlt
    have hc := hv.cell
    have hlen : xs.length + pre.length ≤ 1000000 := by omega
    gi_wp2_with (first
      | (gi_at_builtin; refine wpListIn_append_own _ rfl _ _ 38 rfl base 3 i0 (.int .i64 0) 1 8 Tryz.underlying38 Hi.out Hz0.out Hz1.out Hz2.out rfl (by decide) _ _ _ rfl (hrow.alloc _) ⟨W.heap.size, 0, none⟩ 1 1 [.int .i64 x] rfl rfl (one_cellI _ _) (one_oneI _) (by unfold maxLen; omega) (by omega) (by have := hB.size; simp; omega) ?_; intro v' w3 hown' hg3 _
         obtain ⟨hv1, hv2, hr2, hk2, hb2⟩ := hv.appended (by decide) hrow (Nat.le_trans hbase hB.size) hbase hown' hg3
         obtain ⟨g', cap', rfl⟩ := ownsRow_succ hown'
         have hc1 := hv1.cell
         have hf1 := hv1.frozen
         clear hg3 hown'
         go_frame)
      | gi_in)
    refine ⟨hk2.from _, hk2.walks, ⟨⟨_, hv2, ?_, trivial⟩, hB.trans hb2⟩⟩
    rw [mapInt, List.length_append, List.length_singleton, ← Nat.add_assoc]
    exact hr2
  case done =>
    rintro Dk ys W hDk hys ⟨⟨v, hv, hrow, _⟩, hB⟩ hK
    have hc := hv.cell
    gi_wp2
    refine ⟨by simp, .inl ⟨_, _, rfl, run_takeDeferred hK, ?_⟩⟩
    exact ⟨_, results_tmp rfl _ _ _, v, ys, rfl, hys.2, HS.out ys hys.1, (by unfold OwnI; rw [List.length_append]; exact ownsRow_putObj hrow _ hK rfl), hB.trans (belowK_b (w := w) hbase W Dk _ _ (by simp at hDk; omega) hK rfl rfl)⟩
  case stop =>
    rintro Dk c pre W _ _ h _
    exact h.elim
end Go.Proofs.YtalebnhkidhglaaGreat
