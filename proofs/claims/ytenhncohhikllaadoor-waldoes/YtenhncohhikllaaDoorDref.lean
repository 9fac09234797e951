/-
  The document's disk in memory; the walks of its Units, after, Read and Kept.
-/
import Derived.Test.YtenhncohhikllaaDoorDmore
namespace Go.Proofs.YtenhncohhikllaaDoor
open Go.ChangeShapes Go.WideShapes Go.ChangeAt Go.RowKit

/-- a write's cells -/
def rw3 (x : Dk.W) : List Value := [.int .i64 x.file, .string x.s, .bool x.whole]
theorem rowR : RowTy 28 83 3 32 (.agg #[.int .i64 0, .string ⟨#[]⟩, .bool false]) := ⟨Tryd.underlying28, by kernel_rfl, rfl, by decide, by decide⟩
theorem rw3_len (l : List Dk.W) : (l.flatMap rw3).length = l.length * 3 := by
  induction l with
  | nil => rfl
  | cons x l ih => simp only [List.flatMap_cons, List.length_append, ih, List.length_cons, rw3, List.length_nil]; omega
theorem rw3_one (l : List Dk.W) : ∀ y ∈ l.flatMap rw3, y.oneCell' = true := fun y hy => by
  obtain ⟨x, _, hx⟩ := List.mem_flatMap.1 hy
  simp only [rw3, List.mem_cons, List.not_mem_nil, or_false] at hx
  rcases hx with rfl | rfl | rfl <;> rfl
theorem rw3_at (l : List Dk.W) (k j : Nat) (hk : k < l.length) (hj : j < 3) : (l.flatMap rw3)[k * 3 + j]? = (rw3 l[k])[j]? := by
  induction l generalizing k with
  | nil => cases hk
  | cons x l ih =>
    cases k with
    | zero =>
      rw [List.flatMap_cons, List.getElem?_append_left (by simp only [rw3, List.length_cons, List.length_nil]; omega), Nat.zero_mul, Nat.zero_add]
      rfl
    | succ k =>
      rw [List.flatMap_cons, List.getElem?_append_right (by simp only [rw3, List.length_cons, List.length_nil]; omega)]
      have e : (k + 1) * 3 + j - (rw3 x).length = k * 3 + j := by simp only [rw3, List.length_cons, List.length_nil]; omega
      rw [e, ih k (by simpa using hk)]
      rfl

/-- the cells of the document's disk -/
def rcells (B : Dk.Fl) (v : Value) : Array Value := #[.string (B 0), .string (B 1), .string (B 2), .string (B 3), v]
/-- the document's disk in block r -/
structure RD (w : World) (base r : Nat) (B : Dk.Fl) (v : Value) (W : List Dk.W) : Prop where
  blk : w.heap[r]? = some (.cells (rcells B v) 30 (0, 0))
  low : base ≤ r
  row : OffV 83 3 w base v W.length (W.flatMap rw3)
  few : W.length ≤ 1000000
  ok : ∀ x ∈ W, x.file < 4 ∧ x.s.size ≤ 65536
  fits : Dk.Fits B W
theorem rcell {w : World} {b : Nat} {B : Dk.Fl} {v : Value} (h : w.heap[b]? = some (.cells (rcells B v) 30 (0, 0))) :
    w.cell? ⟨b, 0, none⟩ = some (.string (B 0)) ∧ w.cell? ⟨b, 1, none⟩ = some (.string (B 1)) ∧ w.cell? ⟨b, 2, none⟩ = some (.string (B 2)) ∧ w.cell? ⟨b, 3, none⟩ = some (.string (B 3)) ∧ w.cell? ⟨b, 4, none⟩ = some v ∧ (∀ i, w.frozen? ⟨b, i, none⟩ = false) := by
  simp [World.cell?, World.frozen?, h, rcells]
theorem rcell_at {w : World} {b : Nat} {B : Dk.Fl} {v : Value} (h : w.heap[b]? = some (.cells (rcells B v) 30 (0, 0))) (f : Nat) (hf : f < 4) : w.cell? ⟨b, f, none⟩ = some (.string (B f)) := by
  obtain ⟨c0, c1, c2, c3, _, _⟩ := rcell h
  rcases (by omega : f = 0 ∨ f = 1 ∨ f = 2 ∨ f = 3) with rfl | rfl | rfl | rfl <;> assumption
theorem RD.but {S : Nat → Prop} {w w' : World} {base r : Nat} {B : Dk.Fl} {v : Value} {W : List Dk.W} (h : RD w base r B v W) (k : But S w w') (h1 : ¬ S r) (h2 : ∀ i, v.ownBlock = some i → ¬ S i) : RD w' base r B v W :=
  ⟨k.at h.blk h1, h.low, h.row.but k h2, h.few, h.ok, h.fits⟩
theorem RD.kept {w w' : World} {base r : Nat} {B : Dk.Fl} {v : Value} {W : List Dk.W} (h : RD w base r B v W) (k : Kept w w') : RD w' base r B v W := h.but (S := fun _ => False) k.but (fun h => h) fun _ _ h => h
theorem RD.mono {w : World} {base base' r : Nat} {B : Dk.Fl} {v : Value} {W : List Dk.W} (h : RD w base r B v W) (k : base' ≤ base) : RD w base' r B v W :=
  ⟨h.blk, Nat.le_trans k h.low, h.row.mono k, h.few, h.ok, h.fits⟩
theorem RD.small {w : World} {base r : Nat} {B : Dk.Fl} {v : Value} {W : List Dk.W} (h : RD w base r B v W) : Dk.total W ≤ 65536000000 := by
  have := Dk.total_le W fun x hx => (h.ok x hx).2
  have := h.few
  omega
/-- a write, in memory -/
theorem RD.at {w : World} {base r : Nat} {B : Dk.Fl} {a : Option Addr} {n cap : Nat} {W : List Dk.W} (h : RD w base r B (.slice a n cap) W) {k : Nat} (hk : k < W.length) :
    n = W.length ∧ ∃ g off, a = some ⟨g, off, none⟩ ∧ n ≤ cap ∧ cap ≤ maxLen ∧ w.cell? ⟨g, off + k * 3, none⟩ = some (.int .i64 W[k].file) ∧ w.cell? ⟨g, off + k * 3 + 1, none⟩ = some (.string W[k].s) ∧ w.cell? ⟨g, off + k * 3 + 2, none⟩ = some (.bool W[k].whole) := by
  obtain ⟨a', c', e⟩ := h.row.form
  cases e
  obtain ⟨h0, _, h1⟩ := h.row
  rcases h1 with ⟨_, h1⟩ | ⟨g, off, cap', cur, e, h2, h3, h4, hg, h5, h6⟩
  · omega
  · cases e
    refine ⟨rfl, g, off, rfl, h2, h3, ?_, ?_, ?_⟩
    · have := h6 (k * 3 + 0) _ (rw3_at W k 0 hk (by decide))
      rw [Nat.add_zero] at this
      simp [World.cell?, hg, this]
    · have := h6 (k * 3 + 1) _ (rw3_at W k 1 hk (by decide))
      rw [← Nat.add_assoc] at this
      simp [World.cell?, hg, this]
    · have := h6 (k * 3 + 2) _ (rw3_at W k 2 hk (by decide))
      rw [← Nat.add_assoc] at this
      simp [World.cell?, hg, this]

set_option maxHeartbeats 1000000 in
set_option maxRecDepth 100000 in
theorem runits_any {r base : Nat} {B : Dk.Fl} {v : Value} {W : List Dk.W} (w : World) (h : RD w base r B v W) :
    Calls Tryd.prog 30 #[.pointer (some ⟨r, 0, none⟩)] w fun e w' => e = .returned (.int .i64 (Dk.total W)) ∧ w = w' := by
  obtain ⟨a, cap, rfl⟩ := h.row.form
  have c4 := (rcell h.blk).2.2.2.2.1
  have H := Lib.hid h
  have hfew := h.few
  have hsm := h.small
  clear h
  obtain ⟨n, hn⟩ : ∃ n, n = W.length := ⟨_, rfl⟩
  rw [← hn] at c4 hfew H
  have Hn := Lib.hid hn
  clear hn
  go_enter Tryd.func30, Tryd.ntmps30
  go_wp2
  go_loop [3, 4] (fun s i => ∃ k : Nat, k ≤ n ∧ i = .int .i64 k ∧ s = .int .i64 (Dk.total (W.take k))) (fun _ i => n - (intOf i).toNat)
  case atStart => exact ⟨0, Nat.zero_le _, rfl, rfl⟩
  case round =>
    obtain ⟨k, hk, rfl, rfl⟩ := hrel
    by_cases hlt : k < n
    · have hkl : k < W.length := by rw [← Hn.out]; exact hlt
      obtain ⟨e0, g, off, rfl, _, hcm, hc0, hc1, hc2⟩ := H.out.at hkl
      clear e0
      unfold maxLen at hcm
      have Hs := (H.out.ok _ (List.getElem_mem hkl)).2
      have Ht : Hid (Dk.total (W.take k) + Dk.units W[k] = Dk.total (W.take (k + 1))) := by
        show _ = _
        rw [Dk.take_snoc hkl, Dk.total_snoc]
      have hle := Dk.total_take_le W (k + 1)
      rw [← Ht.out] at hle
      generalize W[k] = x at hc0 hc1 hc2 Hs Ht hle
      generalize Dk.total (W.take k) = T at Ht hle ⊢
      obtain ⟨f, s, wh⟩ := x
      have hle' : T ≤ 65536000000 := by omega
      simp only at hc0 hc1 hc2 Hs
      cases wh with
      | true =>
        have Ht1 : Hid (T + 1 = Dk.total (W.take (k + 1))) := Ht.out
        clear Ht hle
        go_wp2
        go_round
        case rel => exact ⟨k + 1, by omega, by go_num, by rw [← Ht1.out]; go_num⟩
        case measure => simp [intOf]; omega
      | false =>
        have Ht1 : Hid (T + s.size = Dk.total (W.take (k + 1))) := Ht.out
        clear Ht hle
        go_wp2
        go_round
        case rel => exact ⟨k + 1, by omega, by go_num, by rw [← Ht1.out]; go_num⟩
        case measure => simp [intOf]; omega
    · have hkk : k = n := by omega
      subst hkk
      have e : W.take k = W := by rw [Hn.out, List.take_length]
      rw [e]
      go_wp2
      go_ret
      exact ⟨rfl, rfl⟩

set_option maxHeartbeats 2000000 in
set_option maxRecDepth 100000 in
theorem rafter_any {r base : Nat} {B : Dk.Fl} {v : Value} {W : List Dk.W} (f n : Nat) (w : World) (h : RD w base r B v W) (hf : f < 4) (hN : n ≤ Dk.total W) :
    Calls Tryd.prog 53 #[.pointer (some ⟨r, 0, none⟩), .int .i64 f, .int .i64 n] w fun e w' => e = .returned (.string (Dk.after B W n f)) ∧ Kept w w' := by
  obtain ⟨a, cap, rfl⟩ := h.row.form
  have c4 := (rcell h.blk).2.2.2.2.1
  have cf := rcell_at h.blk f hf
  have H := Lib.hid h
  have hfew := h.few
  have hsm := h.small
  have hr : r < w.heap.size := heap_lt h.blk
  clear h
  obtain ⟨l, hl⟩ : ∃ l, l = W.length := ⟨_, rfl⟩
  rw [← hl] at c4 hfew H
  have Hn := Lib.hid hl
  clear hl
  have hn2 : n ≤ 65536000000 := by omega
  go_enter Tryd.func53, Tryd.ntmps53
  go_wp2
  go_loopw [7, 8, 9] (fun s lf i wr => ∃ k : Nat, k ≤ l ∧ i = .int .i64 k ∧ s = .string (Dk.after B (W.take k) n f) ∧ lf = .int .i64 (n - Dk.total (W.take k) : Nat) ∧ Hid (Kept w wr)) (fun _ _ i _ => l - (intOf i).toNat)
  case atStart => exact ⟨0, Nat.zero_le _, rfl, rfl, by simp [Dk.total], Kept.refl _⟩
  case round =>
    obtain ⟨k, hk, rfl, rfl, rfl, KR⟩ := hrel
    have d4 := (Below.cell KR.out (p := ⟨r, 4, none⟩) hr).trans c4
    by_cases hlt : k < l
    · have hkl : k < W.length := by rw [← Hn.out]; exact hlt
      obtain ⟨e0, g, off, rfl, _, hcm, hc0, hc1, hc2⟩ := (H.out.kept KR.out).at hkl
      clear e0
      unfold maxLen at hcm
      have Hs := (H.out.ok _ (List.getElem_mem hkl)).2
      have Hsn : Hid (Dk.after B (W.take (k + 1)) n f = Dk.put (Dk.after B (W.take k) n) W[k] (min (Dk.units W[k]) (n - Dk.total (W.take k))) f) := by
        show _ = _
        rw [Dk.take_snoc hkl, Dk.after_snoc]
      have Ht : Hid (n - Dk.total (W.take k) - min (Dk.units W[k]) (n - Dk.total (W.take k)) = n - Dk.total (W.take (k + 1))) := by
        show _ = _
        rw [Dk.take_snoc hkl, Dk.total_snoc]; omega
      have hsz := (H.out.fits.take k) n f
      generalize W[k] = x at hc0 hc1 hc2 Hs Hsn Ht
      generalize Dk.after B (W.take k) n = A at Hsn hsz ⊢
      have hLb : n - Dk.total (W.take k) ≤ 65536000000 := by omega
      generalize n - Dk.total (W.take k) = L at Ht Hsn hLb ⊢
      obtain ⟨xf, S, wh⟩ := x
      simp only at hc0 hc1 hc2 Hs
      cases wh with
      | true =>
        have hu : Dk.units ⟨xf, S, true⟩ = 1 := rfl
        rw [hu] at Hsn Ht
        clear hu
        by_cases hL : L = 0
        · subst hL
          by_cases hx : xf = f
          · subst hx
            have ex : ((xf : Int) == (xf : Int)) = true := by simp
            go_wp2
            go_roundw
            case rel => exact ⟨k + 1, by omega, by go_num, by rw [Hsn.out]; simp [Dk.put], by rw [← Ht.out]; simp, KR.out.alloc _⟩
            case measure => simp [intOf]; omega
          · have ex : ((xf : Int) == (f : Int)) = false := by rw [beq_eq_false_iff_ne]; omega
            go_wp2
            go_roundw
            case rel => exact ⟨k + 1, by omega, by go_num, by rw [Hsn.out]; simp [Dk.put], by rw [← Ht.out]; simp, KR.out.alloc _⟩
            case measure => simp [intOf]; omega
        · obtain ⟨L', rfl⟩ : ∃ L', L = L' + 1 := ⟨L - 1, by omega⟩
          have hgt : ¬ ((1 : Int) > ((L' + 1 : Nat) : Int)) := by omega
          have hmin : min 1 (L' + 1) = 1 := by omega
          rw [hmin] at Hsn Ht
          clear hmin hL
          by_cases hx : xf = f
          · subst hx
            have ex : ((xf : Int) == (xf : Int)) = true := by simp
            go_wp2
            go_roundw
            case rel => exact ⟨k + 1, by omega, by go_num, by rw [Hsn.out]; simp [Dk.put], by rw [← Ht.out]; go_num, KR.out.alloc _⟩
            case measure => simp [intOf]; omega
          · have ex : ((xf : Int) == (f : Int)) = false := by rw [beq_eq_false_iff_ne]; omega
            go_wp2
            go_roundw
            case rel => exact ⟨k + 1, by omega, by go_num, by rw [Hsn.out]; simp [Dk.put, Ne.symm hx], by rw [← Ht.out]; go_num, KR.out.alloc _⟩
            case measure => simp [intOf]; omega
      | false =>
        have hu : Dk.units ⟨xf, S, false⟩ = S.size := rfl
        rw [hu] at Hsn Ht
        clear hu
        by_cases hL : S.size ≤ L
        · have hmin : min S.size L = S.size := by omega
          rw [hmin] at Hsn Ht
          clear hmin
          have hgt : ¬ ((L : Int) < (S.size : Int)) := by omega
          by_cases hx : xf = f
          · subst hx
            have ex : ((xf : Int) == (xf : Int)) = true := by simp
            have hov : ¬ (9223372036854775807 < (A xf).size + S.size) := by omega
            go_wp2
            go_roundw
            case rel => exact ⟨k + 1, by omega, by go_num, by rw [Hsn.out]; simp [Dk.put], by rw [← Ht.out]; go_num, KR.out.alloc _⟩
            case measure => simp [intOf]; omega
          · have ex : ((xf : Int) == (f : Int)) = false := by rw [beq_eq_false_iff_ne]; omega
            go_wp2
            go_roundw
            case rel => exact ⟨k + 1, by omega, by go_num, by rw [Hsn.out]; simp [Dk.put, Ne.symm hx], by rw [← Ht.out]; go_num, KR.out.alloc _⟩
            case measure => simp [intOf]; omega
        · have hmin : min S.size L = L := by omega
          rw [hmin] at Hsn Ht
          clear hmin
          have hgt : (L : Int) < (S.size : Int) := by omega
          have hLs : L ≤ S.size := by omega
          by_cases hx : xf = f
          · subst hx
            have ex : ((xf : Int) == (xf : Int)) = true := by simp
            have hov : ¬ (9223372036854775807 < (A xf).size + L) := by omega
            go_wp2
            go_roundw
            case rel => exact ⟨k + 1, by omega, by go_num, by rw [Hsn.out]; simp [Dk.put], by rw [← Ht.out]; go_num, KR.out.alloc _⟩
            case measure => simp [intOf]; omega
          · have ex : ((xf : Int) == (f : Int)) = false := by rw [beq_eq_false_iff_ne]; omega
            go_wp2
            go_roundw
            case rel => exact ⟨k + 1, by omega, by go_num, by rw [Hsn.out]; simp [Dk.put, Ne.symm hx], by rw [← Ht.out]; go_num, KR.out.alloc _⟩
            case measure => simp [intOf]; omega
    · have hkk : k = l := by omega
      subst hkk
      have e : W.take k = W := by rw [Hn.out, List.take_length]
      rw [e]
      go_wp2
      go_ret
      exact ⟨rfl, KR.out⟩
end Go.Proofs.YtenhncohhikllaaDoor
