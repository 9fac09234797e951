/-
  A log in memory; the walks of State, Records, Sure, Round.
-/
import Derived.Test.YtenhncohhikllaaDoorWrows
import Derived.Test.YtenhncohhikllaaDoorDmore
namespace Go.Proofs.YtenhncohhikllaaDoor
open Go.ChangeShapes Go.WideShapes Go.ChangeAt Go.RowKit

/-- a log is not too great -/
structure Wg.Few (x : Wg.St) (sure : Nat) : Prop where
  r : x.r ≤ 1099511628776
  st : x.st.length ≤ 65536
  n : x.l.length ≤ 1000000
  l : ∀ y ∈ x.l, y.length ≤ 65536
  sure : sure ≤ 1000000
/-- the cells of a log -/
def lcells (d : Nat) (x : Wg.St) (lv : Value) (sure : Nat) : Array Value := #[.pointer (some ⟨d, 0, none⟩), .int .u64 x.r, str x.st, lv, .int .i64 sure]
/-- the log in block b, over the disk in block d -/
structure Lg (w : World) (base b d : Nat) (x : Wg.St) (lv : Value) (sure : Nat) : Prop where
  blk : w.heap[b]? = some (.cells (lcells d x lv sure) 68 (0, 0))
  low : base ≤ b
  row : Tx w base lv x.l
  few : Wg.Few x sure
theorem lcell {w : World} {b d : Nat} {x : Wg.St} {lv : Value} {sure : Nat} (h : w.heap[b]? = some (.cells (lcells d x lv sure) 68 (0, 0))) :
    w.cell? ⟨b, 0, none⟩ = some (.pointer (some ⟨d, 0, none⟩)) ∧ w.cell? ⟨b, 1, none⟩ = some (.int .u64 x.r) ∧ w.cell? ⟨b, 2, none⟩ = some (str x.st) ∧ w.cell? ⟨b, 3, none⟩ = some lv ∧ w.cell? ⟨b, 4, none⟩ = some (.int .i64 sure) ∧ (∀ i, w.frozen? ⟨b, i, none⟩ = false) := by
  simp [World.cell?, World.frozen?, h, lcells]
theorem Lg.but {S : Nat → Prop} {w w' : World} {base b d : Nat} {x : Wg.St} {lv : Value} {sure : Nat} (h : Lg w base b d x lv sure) (k : But S w w') (h1 : ¬ S b) (h2 : ∀ i, lv.ownBlock = some i → ¬ S i) : Lg w' base b d x lv sure :=
  ⟨k.at h.blk h1, h.low, h.row.but k h2, h.few⟩
theorem Lg.kept {w w' : World} {base b d : Nat} {x : Wg.St} {lv : Value} {sure : Nat} (h : Lg w base b d x lv sure) (k : Kept w w') : Lg w' base b d x lv sure := h.but (S := fun _ => False) k.but (fun h => h) fun _ _ h => h
theorem Lg.mono {w : World} {base base' b d : Nat} {x : Wg.St} {lv : Value} {sure : Nat} (h : Lg w base b d x lv sure) (k : base' ≤ base) : Lg w base' b d x lv sure := ⟨h.blk, Nat.le_trans k h.low, h.row.mono k, h.few⟩

set_option maxHeartbeats 400000 in
theorem state_any {base b d : Nat} {x : Wg.St} {lv : Value} {sure : Nat} (w : World) (h : Lg w base b d x lv sure) :
    Calls Tryd.prog 31 #[.pointer (some ⟨b, 0, none⟩)] w fun e w' => e = .returned (str x.st) ∧ Kept w w' := by
  obtain ⟨_, _, c2, _, _, _⟩ := lcell h.blk
  have hf := h.few.st
  obtain ⟨p, hp, sp, _⟩ := name_str x.st
  rw [hp] at c2
  rw [← sp] at hf
  have Hp := Lib.hid hp
  clear h hp sp
  go_enter Tryd.func31, Tryd.ntmps31
  go_wp2_with fail
  refine (clone_any p _ (by omega)).mono ?_
  rintro e w1 ⟨rfl, k1⟩
  go_wp2
  go_ret
  exact ⟨by rw [Hp.out]; rfl, k1⟩
set_option maxHeartbeats 400000 in
theorem sure_any {base b d : Nat} {x : Wg.St} {lv : Value} {sure : Nat} (w : World) (h : Lg w base b d x lv sure) :
    Calls Tryd.prog 34 #[.pointer (some ⟨b, 0, none⟩)] w fun e w' => e = .returned (.int .i64 sure) ∧ Kept w w' := by
  obtain ⟨_, _, _, _, c4, _⟩ := lcell h.blk
  clear h
  go_enter Tryd.func34, Tryd.ntmps34
  go_wp2
  go_ret
  exact ⟨rfl, Kept.refl w⟩
set_option maxHeartbeats 400000 in
theorem round_any {base b d : Nat} {x : Wg.St} {lv : Value} {sure : Nat} (w : World) (h : Lg w base b d x lv sure) :
    Calls Tryd.prog 35 #[.pointer (some ⟨b, 0, none⟩)] w fun e w' => e = .returned (.int .i64 x.r) ∧ Kept w w' := by
  obtain ⟨_, c1, _, _, _, _⟩ := lcell h.blk
  have hr := h.few.r
  have r1 : IntKind.i64.wrap (x.r : Int) = (x.r : Int) := by rw [IntKind.wrap_i64]; omega
  clear h
  go_enter Tryd.func35, Tryd.ntmps35
  go_wp2
  go_ret
  exact ⟨rfl, Kept.refl w⟩

set_option maxHeartbeats 2000000 in
set_option maxRecDepth 100000 in
theorem records_any {base b d : Nat} {x : Wg.St} {lv : Value} {sure : Nat} (w : World) (h : Lg w base b d x lv sure) :
    Calls Tryd.prog 32 #[.pointer (some ⟨b, 0, none⟩)] w fun e w' => ∃ v, e = .returned v ∧ Tx w' w.heap.size v x.l ∧ Kept w w' := by
  obtain ⟨_, _, _, c3, _, _⟩ := lcell h.blk
  obtain ⟨hn, hl⟩ := And.intro h.few.n h.few.l
  have HV := Lib.hid h.row
  have HL := Lib.hid hl
  clear h hl
  obtain ⟨r, st, l⟩ := x
  simp only at hn HV HL
  obtain ⟨n, hnn⟩ : ∃ n, n = l.length := ⟨_, rfl⟩
  obtain ⟨a, cap, rfl⟩ := HV.out.form
  rw [← hnn] at c3 hn HV
  have HN := Lib.hid hnn
  clear hnn
  go_enter Tryd.func32, Tryd.ntmps32
  go_wp2
  go_loopw [3, 5, 11] (fun v _ i wr => ∃ k : Nat, k ≤ n ∧ i = .int .i64 k ∧ Hid (Tx wr w.heap.size v (l.take k)) ∧ Hid (Kept w wr)) (fun _ _ i _ => n - (intOf i).toNat)
  case atStart => exact ⟨0, Nat.zero_le _, rfl, Lib.hid (Tx.nil _ _), Lib.hid (Kept.refl w)⟩
  case round =>
    obtain ⟨k, hk, rfl, hx, kr⟩ := hrel
    rename_i wr
    obtain ⟨av, capv, rfl⟩ := hx.out.form
    by_cases hlt : k < n
    · have hkl : k < l.length := by rw [← HN.out]; exact hlt
      obtain ⟨g, off, rfl, hc1, hc2, _, p, hp, lp⟩ := (HV.out.kept kr.out).at hkl
      unfold maxLen at hc2
      have hps : p.size ≤ 65536 := by rw [← size_len, lp]; exact HL.out _ (List.getElem_mem hkl)
      have hlk : (l.take k).length = k := by rw [List.length_take]; omega
      have hpq : Hid (str l[k] = .string p) := Lib.hid (by rw [← lp]; rfl)
      have htk : Hid (l.take (k + 1) = l.take k ++ [l[k]]) := Lib.hid (List.take_succ_eq_append_getElem hkl)
      have hx0 := hx.out
      unfold Tx at hx0
      rw [hlk] at hx0 ⊢
      have HX := Lib.hid hx0
      clear lp hx0 hx
      go_wp2_with fail
      refine (clone_any p _ (by omega)).mono ?_
      rintro e w2 ⟨rfl, k2⟩
      have KR2 := Lib.hid (kr.out.trans k2)
      have HX5 := Lib.hid (OffV.kept HX.out (k2.trans ((Kept.refl w2).alloc (.cells #[.string p] 9))))
      have HB5 : Hid (w.heap.size ≤ (w2.alloc (.cells #[.string p] 9)).heap.size) := Lib.hid (by have := KR2.out.size; rw [World.size_alloc]; omega)
      have hl1 : k + 1 ≤ 1000001 := by omega
      clear k2
      go_wp2_with (at_builtin; refine wp_rapp rowS (base := w.heap.size) (v := .slice av k capv) (n := k) (m := 1) (xs := (l.take k).map str) (ys := [.string p]) HX5.out (Src.one w2 [.string p] 9 rfl (one_one p)) hl1 HB5.out rfl _ _ rfl rfl rfl ?_)
      intro v6 w6 o6 g6 b6 n6
      have o7 : Tx w6 w.heap.size v6 (l.take (k + 1)) := by
        unfold Tx
        rw [htk.out, List.length_append, List.map_append, List.map_singleton, hpq.out, hlk]
        first | exact o6 | (rw [List.map_take]; exact o6)
      have k6 : Kept w w6 := But.after (KR2.out.alloc _) b6 fun i hi e => by have := (HX5.out.blk e).1; omega
      have O7 := Lib.hid o7
      have K6 := Lib.hid k6
      obtain ⟨a6, cap6, rfl⟩ := o7.form
      clear o6 g6 b6 n6 o7 k6 HX5 HB5
      go_wp2
      go_roundw
      case rel => exact ⟨k + 1, by omega, by go_num, O7, K6⟩
      case measure => simp [intOf]; omega
    · have hkk : k = n := by omega
      have e : l.take k = l := by rw [hkk, HN.out, List.take_length]
      rw [e] at hx ⊢
      subst hkk
      go_wp2
      go_ret
      exact ⟨_, rfl, hx.out, kr.out⟩
end Go.Proofs.YtenhncohhikllaaDoor
