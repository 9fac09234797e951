/-
  The document's boxes in memory: New, Put, First, Take, All.
-/
import Derived.Test.YtcachpcefeoolaaMoff
namespace Go.Proofs.Ytcachpcefeoolaa
open Go.ChangeShapes Go.WideShapes Go.ChangeAt Go.RowKit

/-- a box of the document's: where it lies, its row, its size, its texts -/
structure RB (w : World) (base b : Nat) (v : Value) (size : Int) (l : List ByteArray) : Prop where
  blk : w.heap[b]? = some (.cells #[v, .int .i64 size] 47 (0, 0))
  row : OffS w base v (txs l)
theorem RB.kept {w w' : World} {base b : Nat} {v : Value} {size : Int} {l : List ByteArray} (h : RB w base b v size l) (k : Kept w w') : RB w' base b v size l := ⟨(Below.block k b (heap_lt h.blk)).trans h.blk, h.row.kept k⟩
theorem RB.but {S : Nat → Prop} {w w' : World} {base b : Nat} {v : Value} {size : Int} {l : List ByteArray} (h : RB w base b v size l) (k : But S w w') (h1 : ¬ S b) (h2 : ∀ i, v.ownBlock = some i → ¬ S i) : RB w' base b v size l := ⟨k.at h.blk h1, h.row.but k h2⟩
theorem RB.c0 {w : World} {base b : Nat} {v : Value} {size : Int} {l : List ByteArray} (h : RB w base b v size l) : w.cell? ⟨b, 0, none⟩ = some v := by simp [World.cell?, h.blk]
theorem RB.c1 {w : World} {base b : Nat} {v : Value} {size : Int} {l : List ByteArray} (h : RB w base b v size l) : w.cell? ⟨b, 1, none⟩ = some (.int .i64 size) := by simp [World.cell?, h.blk]
theorem RB.fz {w : World} {base b : Nat} {v : Value} {size : Int} {l : List ByteArray} (h : RB w base b v size l) : w.frozen? ⟨b, 0, none⟩ = false := by simp [World.frozen?, h.blk]
theorem RB.own {w : World} {base b : Nat} {v : Value} {size : Int} {l : List ByteArray} (h : RB w base b v size l) {i : Nat} (e : v.ownBlock = some i) : i ≠ b := by
  rintro rfl
  obtain ⟨_, cur, hc⟩ := h.row.blk e
  rw [h.blk] at hc
  injection hc with hc
  injection hc with _ ht
  exact absurd ht (by decide)
/-- its row put in its place -/
theorem RB.set {w : World} {base base' b : Nat} {v v' : Value} {size : Int} {l l' : List ByteArray} (h : RB w base b v size l) (o : OffS w base' v' (txs l')) : RB (w.setCell ⟨b, 0, none⟩ v') base' b v' size l' := by
  have hb : (w.setCell ⟨b, 0, none⟩ v').heap[b]? = some (.cells #[v', .int .i64 size] 47 (0, 0)) := by
    simp [World.setCell, Array.getElem?_modify, h.blk]
  refine ⟨hb, o.but (but_cell w b 0 v') fun i e he => ?_⟩
  subst he
  obtain ⟨_, cur, hc⟩ := o.blk e
  rw [h.blk] at hc
  injection hc with hc
  injection hc with _ ht
  exact absurd ht (by decide)
theorem str_of (x : ByteArray) : str x.data.toList = .string x := rfl
theorem txs_get {l : List ByteArray} {i : Nat} {x : ByteArray} (h : l[i]? = some x) : (txs l)[i]? = some x.data.toList := by simp [txs, h]

set_option maxHeartbeats 400000 in
theorem rnew_bad (n : Int) (w : World) (h : n < 1 ∨ 256 < n) : Calls Try.prog 10 #[.int .i64 n] w fun e w' => e = .returned (.tuple #[.pointer none, .int .i64 1]) ∧ Kept w w' := by
  by_cases h1 : n < 1
  · clear h
    go_enter Try.func10, Try.ntmps10
    go_wp2
    go_ret2
    exact ⟨rfl, Kept.refl _⟩
  · have h2 : 256 < n := by omega
    clear h
    go_enter Try.func10, Try.ntmps10
    go_wp2
    go_ret2
    exact ⟨rfl, Kept.refl _⟩
set_option maxHeartbeats 400000 in
theorem rnew_ok (m : Nat) (w : World) (h1 : 1 ≤ m) (h2 : m ≤ 256) : Calls Try.prog 10 #[.int .i64 m] w fun e w' =>
    ∃ b, e = .returned (.tuple #[.pointer (some ⟨b, 0, none⟩), .int .i64 0]) ∧ w.heap.size ≤ b ∧ RB w' w.heap.size b (.slice none 0 0) m [] ∧ Kept w w' := by
  go_enter Try.func10, Try.ntmps10
  go_wp2
  go_ret2
  exact ⟨_, rfl, Nat.le_refl _, ⟨heap_alloc_new w _, OffS.nil _ _⟩, (Kept.refl w).alloc _⟩

set_option maxHeartbeats 400000 in
theorem rput_full (base b : Nat) (v : Value) (size : Int) (l : List ByteArray) (x : ByteArray) (w : World) (h : RB w base b v size l) (hr : size ≤ (l.length : Int)) :
    Calls Try.prog 12 #[.pointer (some ⟨b, 0, none⟩), .string x] w fun e w' => e = .returned (.int .i64 7) ∧ Kept w w' := by
  have c0 := h.c0
  have c1 := h.c1
  obtain ⟨a, cap, rfl⟩ := h.row.form
  rw [txs_len] at c0
  clear h
  go_enter Try.func12, Try.ntmps12
  go_wp2
  go_quiet (fail)
  go_wp2
  go_ret
  exact ⟨rfl, below_drewN (Kept.refl w) _⟩

set_option maxHeartbeats 400000 in
theorem rput_room (base b : Nat) (v : Value) (size : Int) (l : List ByteArray) (x : ByteArray) (w : World) (h : RB w base b v size l) (hb : base ≤ w.heap.size) (hr : (l.length : Int) < size) (hl : l.length ≤ 1000) :
    Calls Try.prog 12 #[.pointer (some ⟨b, 0, none⟩), .string x] w fun e w' => e = .returned (.int .i64 0) ∧ ∃ v', RB w' base b v' size (l ++ [x]) ∧ Went w v v' ∧ But (fun i => i = b ∨ v.ownBlock = some i) w w' := by
  have c0 := h.c0
  have c1 := h.c1
  obtain ⟨a, cap, rfl⟩ := h.row.form
  rw [txs_len] at c0 h ⊢
  have H := Lib.hid h
  clear h
  have hnr : ¬ size ≤ (l.length : Int) := by omega
  go_enter Try.func12, Try.ntmps12
  go_wp2
  go_quiet (fail)
  have kq : Kept w (w.drewN nq) := below_drewN (Kept.refl w) nq
  have HQ := Lib.hid (H.out.kept kq)
  have KQ := Lib.hid kq
  have hbq : base ≤ (w.drewN nq).heap.size := hb
  clear kq c0 c1
  generalize w.drewN nq = wq at HQ KQ hbq ⊢
  have c0 := HQ.out.c0
  have ka := (Kept.refl wq).alloc (.cells #[.string x] 9)
  go_wp2_with (first
    | (at_builtin
       refine wp_app (HQ.out.kept ka).row (strs_one wq x) (by rw [txs_len]; simp; omega) (by rw [World.size_alloc]; omega) rfl _ _ rfl rfl rfl ?_; intro v3 w3 o3 g3 b3 n3
       obtain ⟨a3, cp3, rfl⟩ := o3.form
       generalize (txs l ++ [x.data.toList]).length = m3 at o3 g3 n3 ⊢
       have hblk := b3.at (HQ.out.kept ka).blk (fun e => (HQ.out.kept ka).own e rfl)
       have c3 : w3.cell? ⟨b, 0, none⟩ = some (.slice a l.length cap) := by simp [World.cell?, hblk]
       have f3 : w3.frozen? ⟨b, 0, none⟩ = false := by simp [World.frozen?, hblk]
       have HB := Lib.hid hblk
       have O3 := Lib.hid o3
       have G3 := Lib.hid g3
       have B3 := Lib.hid b3
       clear o3 g3 b3 n3 hblk
       go_frame)
    | fail)
  go_ret
  have hset : RB (w3.setCell ⟨b, 0, none⟩ (.slice a3 m3 cp3)) base b (.slice a3 m3 cp3) size (l ++ [x]) := by
    have hb3 : (w3.setCell ⟨b, 0, none⟩ (.slice a3 m3 cp3)).heap[b]? = some (.cells #[.slice a3 m3 cp3, .int .i64 size] 47 (0, 0)) := by
      simp [World.setCell, Array.getElem?_modify, HB.out]
    refine ⟨hb3, ?_⟩
    rw [txs_snoc]
    refine O3.out.but (but_cell w3 b 0 _) fun i e he => ?_
    subst he
    obtain ⟨_, cur, hc⟩ := O3.out.blk e
    rw [HB.out] at hc
    injection hc with hc
    injection hc with _ ht
    exact absurd ht (by decide)
  refine ⟨rfl, _, hset, ?_, ?_⟩
  · rcases G3.out with g | g
    · exact .inl g
    · refine .inr fun i hi => ?_
      have h1 := g i hi
      have h2 := KQ.out.size
      rw [World.size_alloc] at h1
      omega
  · have b1 : But (fun i => (Value.slice a l.length cap).ownBlock = some i) w w3 := (KQ.out.trans ka).but.trans B3.out fun _ _ h => h
    exact ⟨b1.os, b1.tape, b1.output, Nat.le_trans b1.size (but_cell w3 b 0 _).size, fun i hi hn => ((but_cell w3 b 0 _).block i (Nat.lt_of_lt_of_le hi b1.size) (fun e => hn (Or.inl e))).trans (b1.block i hi fun e => hn (Or.inr e))⟩

set_option maxHeartbeats 400000 in
theorem rfirst_none (base b : Nat) (v : Value) (size : Int) (w : World) (h : RB w base b v size []) :
    Calls Try.prog 16 #[.pointer (some ⟨b, 0, none⟩)] w fun e w' => e = .returned (.tuple #[.string ⟨#[]⟩, .bool false]) ∧ Kept w w' := by
  have c0 := h.c0
  obtain ⟨a, cap, rfl⟩ := h.row.form
  rw [txs_len] at c0
  clear h
  go_enter Try.func16, Try.ntmps16
  go_wp2
  go_ret2
  exact ⟨rfl, Kept.refl w⟩
set_option maxHeartbeats 400000 in
theorem rfirst_some (base b : Nat) (v : Value) (size : Int) (x : ByteArray) (t : List ByteArray) (w : World) (h : RB w base b v size (x :: t)) :
    Calls Try.prog 16 #[.pointer (some ⟨b, 0, none⟩)] w fun e w' => e = .returned (.tuple #[.string x, .bool true]) ∧ Kept w w' := by
  have c0 := h.c0
  obtain ⟨a, cap, hv, h1, h2, h3⟩ := h.row.strs
  obtain ⟨g, off, rfl, hg, hc⟩ := h3.resolve_left (by simp [txs])
  have d0 : w.cell? ⟨g, off, none⟩ = some (.string x) := hc 0 _ rfl
  rw [txs_len] at hv h1
  subst hv
  have hl : ¬ (((x :: t).length : Nat) = 0) := by simp
  have hl2 : (0 : Int) < ((x :: t).length : Nat) := by simp
  generalize (x :: t).length = n at c0 hl hl2 h1 ⊢
  clear hc h3 h
  go_enter Try.func16, Try.ntmps16
  go_wp2
  go_ret2
  exact ⟨rfl, Kept.refl w⟩
set_option maxHeartbeats 400000 in
theorem rtake_none (base b : Nat) (v : Value) (size : Int) (w : World) (h : RB w base b v size []) :
    Calls Try.prog 14 #[.pointer (some ⟨b, 0, none⟩)] w fun e w' => e = .returned (.tuple #[.string ⟨#[]⟩, .bool false]) ∧ Kept w w' := by
  have H := Lib.hid h
  clear h
  go_enter Try.func14, Try.ntmps14
  go_wp2_with fail
  refine (rfirst_none base b v size _ H.out).mono ?_
  rintro e w1 ⟨rfl, k1⟩
  have K1 := Lib.hid k1
  clear k1
  go_wp2
  go_ret2
  exact ⟨rfl, K1.out⟩
set_option maxHeartbeats 400000 in
theorem rtake_some (base b : Nat) (v : Value) (size : Int) (x : ByteArray) (t : List ByteArray) (w : World) (h : RB w base b v size (x :: t)) :
    Calls Try.prog 14 #[.pointer (some ⟨b, 0, none⟩)] w fun e w' => e = .returned (.tuple #[.string x, .bool true]) ∧ ∃ v', RB w' base b v' size t ∧ v'.ownBlock = v.ownBlock ∧ But (fun i => i = b) w w' := by
  have H := Lib.hid h
  clear h
  go_enter Try.func14, Try.ntmps14
  go_wp2_with fail
  refine (rfirst_some base b v size x t _ H.out).mono ?_
  rintro e w1 ⟨rfl, k1⟩
  have h1 := H.out.kept k1
  have K1 := Lib.hid k1
  have c0 := h1.c0
  have f0 := h1.fz
  obtain ⟨a, cap, rfl⟩ := h1.row.form
  have hrow := h1.row
  obtain ⟨g, off, rfl, hcap, hm, ht, ht1⟩ := OffS.tail (x := x.data.toList) (xs := txs t) hrow
  have H1 := Lib.hid h1
  have hlen : (txs (x :: t)).length = (txs t).length + 1 := by simp [txs]
  rw [hlen] at c0
  unfold maxLen at hm
  have HT := Lib.hid ht
  have HT1 := Lib.hid ht1
  clear k1 h1 hrow ht ht1 hlen
  generalize (txs t).length = m at c0 hcap HT HT1
  go_wp2
  · go_ret2
    exact ⟨rfl, _, H1.out.set (HT1.out (by assumption)), rfl, K1.out.but.trans (but_cell w1 b 0 _) fun _ _ h => h⟩
  · go_ret2
    exact ⟨rfl, _, H1.out.set HT.out, rfl, K1.out.but.trans (but_cell w1 b 0 _) fun _ _ h => h⟩

set_option maxHeartbeats 400000 in
theorem rall_any (base b : Nat) (v : Value) (size : Int) (l : List ByteArray) (w : World) (h : RB w base b v size l) :
    Calls Try.prog 19 #[.pointer (some ⟨b, 0, none⟩)] w fun e w' => e = .returned v ∧ RB w' base b (.slice none 0 0) size [] ∧ OffS w' base v (txs l) ∧ But (fun i => i = b) w w' := by
  have c0 := h.c0
  have f0 := h.fz
  have hrow := h.row
  obtain ⟨a, cap, rfl⟩ := h.row.form
  generalize (txs l).length = n at c0 h hrow ⊢
  have H := Lib.hid h
  have R := Lib.hid hrow
  clear h hrow
  go_enter Try.func19, Try.ntmps19
  go_wp2
  go_ret
  exact ⟨rfl, H.out.set (OffS.nil _ _), R.out.but (but_cell w b 0 _) fun i e => H.out.own e, but_cell w b 0 _⟩

set_option maxHeartbeats 400000 in
theorem rcopy_any (base b : Nat) (v : Value) (size : Int) (l : List ByteArray) (w : World) (h : RB w base b v size l) (hl : l.length ≤ 1000) :
    Calls Try.prog 21 #[.pointer (some ⟨b, 0, none⟩)] w fun e w' => ∃ b' v', e = .returned (.pointer (some ⟨b', 0, none⟩)) ∧ w.heap.size ≤ b' ∧ RB w' w.heap.size b' v' size l ∧ Kept w w' := by
  have c0 := h.c0
  have c1 := h.c1
  have H := Lib.hid h
  clear h
  go_enter Try.func21, Try.ntmps21
  go_wp2
  have hd : Kept w w.drew := Kept.drew (Kept.refl w)
  have ka : Kept w (w.drew.alloc (.cells #[] 9)) := hd.alloc _
  have hs : w.drew.heap.size = w.heap.size := rfl
  have ho : OffS (w.drew.alloc (.cells #[] 9)) w.heap.size (.slice (some ⟨w.heap.size, 0, none⟩) 0 0) [] := (own_empty' w.drew).off
  have HO := Lib.hid ho
  have KA := Lib.hid ka
  have a0 := (H.out.kept ((Kept.refl w).alloc (.cells #[] 9))).c0
  have a1 := (H.out.kept ((Kept.refl w).alloc (.cells #[] 9))).c1
  clear ho ka hd
  go_region_law (refine step_app HO.out (H.out.kept KA.out).row.strs (by rw [txs_len]; simp; omega) KA.out.size rfl (.tmp 3) (.tmp 7) rfl (by simp [Act.eval]) (by simp [Act.eval]) ?_; intro v3 w3 o3 g3 b3 n3; obtain ⟨a3, cp3, rfl⟩ := o3.form; rw [List.nil_append, txs_len] at o3 g3 ⊢; have k3 : Kept w w3 := kept_off KA.out HO.out (Nat.le_refl _) b3; have c13 : w3.cell? ⟨b, 1, none⟩ = some (.int .i64 size) := (H.out.kept k3).c1)
  all_goals
    have O3 := Lib.hid o3
    have K3 := Lib.hid k3
    clear o3 g3 b3 n3 k3 HO KA c13 a0 a1 c0 c1
    go_wp2
    go_ret
    exact ⟨_, _, rfl, K3.out.size, ⟨heap_alloc_new w3 _, O3.out.kept ((Kept.refl w3).alloc _)⟩, K3.out.alloc _⟩
end Go.Proofs.Ytcachpcefeoolaa
