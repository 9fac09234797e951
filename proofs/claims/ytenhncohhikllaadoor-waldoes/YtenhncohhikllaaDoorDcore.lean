/-
  The walks of a disk's calls.
-/
import Derived.Test.YtenhncohhikllaaDoorDwith
import Derived.Deep.RegionHeld3
namespace Go.Proofs.YtenhncohhikllaaDoor
open Go.ChangeShapes Go.WideShapes Go.ChangeAt Go.RowKit

/-- a disk's cells, one by one -/
theorem dcell {w : World} {b : Nat} {K N : Dk.Fl} {v : Value} (h : w.heap[b]? = some (.cells (dcells K N v) 61 (0, 0))) :
    w.cell? ⟨b, 0, none⟩ = some (.string (K 0)) ∧ w.cell? ⟨b, 1, none⟩ = some (.string (K 1)) ∧ w.cell? ⟨b, 2, none⟩ = some (.string (K 2)) ∧ w.cell? ⟨b, 3, none⟩ = some (.string (K 3)) ∧
    w.cell? ⟨b, 4, none⟩ = some (.string (N 0)) ∧ w.cell? ⟨b, 5, none⟩ = some (.string (N 1)) ∧ w.cell? ⟨b, 6, none⟩ = some (.string (N 2)) ∧ w.cell? ⟨b, 7, none⟩ = some (.string (N 3)) ∧
    w.cell? ⟨b, 8, none⟩ = some v ∧ (∀ i, w.frozen? ⟨b, i, none⟩ = false) := by
  simp [World.cell?, World.frozen?, h, dcells]
theorem Dsk.kept {w w' : World} {base b : Nat} {K : Dk.Fl} {v : Value} {ws : List Dk.W} (h : Dsk w base b K v ws) (k : Kept w w') : Dsk w' base b K v ws :=
  ⟨(Below.block k b (heap_lt h.blk)).trans h.blk, h.low, h.row.kept k, h.few, h.ok, h.fits⟩
theorem Dsk.mono {w : World} {base base' b : Nat} {K : Dk.Fl} {v : Value} {ws : List Dk.W} (h : Dsk w base b K v ws) (k : base' ≤ base) : Dsk w base' b K v ws :=
  ⟨h.blk, Nat.le_trans k h.low, h.row.mono k, h.few, h.ok, h.fits⟩
theorem Dsk.small {w : World} {base b : Nat} {K : Dk.Fl} {v : Value} {ws : List Dk.W} (h : Dsk w base b K v ws) : Dk.total ws ≤ 65536000000 := by
  have := Dk.total_le ws fun x hx => (h.ok x hx).2
  have := h.few
  omega

/-- cells of a block, set one by one -/
theorem sets_one {w0 w : World} {b : Nat} {cur : Array Value} {t : TypeId} {fz : Nat × Nat} (h : w.heap[b]? = some (.cells cur t fz) ∧ But (fun i => i = b) w0 w) (i : Nat) (x : Value) :
    (w.setCell ⟨b, i, none⟩ x).heap[b]? = some (.cells (cur.setIfInBounds i x) t fz) ∧ But (fun i => i = b) w0 (w.setCell ⟨b, i, none⟩ x) :=
  ⟨by simp [World.setCell, Array.getElem?_modify, h.1], h.2.trans (but_cell0 w b i x) fun _ _ h => h⟩

theorem new_disk (w : World) : Calls Tryd.prog 10 #[] w fun e w' => e = .returned (.pointer (some ⟨w.heap.size, 0, none⟩)) ∧ Dsk w' w.heap.size w.heap.size (fun _ => ⟨#[]⟩) (.slice none 0 0) [] ∧ Kept w w' := by
  go_enter Tryd.func10, Tryd.ntmps10
  go_wp2
  go_ret
  refine ⟨rfl, ⟨heap_alloc_new w _, Nat.le_refl _, OffV.nil _ _ _ _, Nat.zero_le _, by simp, Dk.fits_nil fun _ => Nat.zero_le _⟩, (Kept.refl w).alloc _⟩

set_option maxHeartbeats 400000 in
theorem read_disk {b : Nat} {base : Nat} {K : Dk.Fl} {v : Value} {ws : List Dk.W} (f : Int) (w : World) (h : Dsk w base b K v ws) :
    Calls Tryd.prog 27 #[.pointer (some ⟨b, 0, none⟩), .int .i64 f] w fun e w' => e = .returned (.string (if 0 ≤ f ∧ f < 4 then Dk.after K ws (Dk.total ws) f.toNat else ⟨#[]⟩)) ∧ Kept w w' := by
  have hs : ∀ i, (Dk.after K ws (Dk.total ws) i).size ≤ 65536 := fun i => h.fits _ i
  obtain ⟨_, _, _, _, c4, c5, c6, c7, _, _⟩ := dcell h.blk
  clear h
  generalize Dk.after K ws (Dk.total ws) = N at hs c4 c5 c6 c7 ⊢
  have HS := Lib.hid hs
  clear hs
  have ef : flv N = .agg #[.string (N 0), .string (N 1), .string (N 2), .string (N 3)] := rfl
  have EF := Lib.hid ef
  clear ef
  by_cases hf : 0 ≤ f ∧ f < 4
  · obtain ⟨k, rfl⟩ : ∃ k : Nat, f = (k : Int) := ⟨f.toNat, by omega⟩
    have hk : k < 4 := by omega
    rw [if_pos hf, Int.toNat_natCast]
    clear hf
    go_enter Tryd.func27, Tryd.ntmps27
    go_wp2_with fail
    rw [← EF.out]
    refine (read_file N k _ hk (Nat.le_trans (HS.out k) (by decide))).mono ?_
    rintro e w1 ⟨rfl, k1⟩
    go_wp2
    go_ret
    exact ⟨rfl, k1⟩
  · rw [if_neg hf]
    have HF := Lib.hid hf
    clear hf
    go_enter Tryd.func27, Tryd.ntmps27
    go_wp2_with fail
    rw [← EF.out]
    refine (read_none N f _ HF.out).mono ?_
    rintro e w1 ⟨rfl, k1⟩
    go_wp2
    go_ret
    exact ⟨rfl, k1⟩

set_option maxHeartbeats 400000 in
theorem settle_disk {b : Nat} (G : Dk.Fl) (w : World) (K N : Dk.Fl) (v : Value) (h : w.heap[b]? = some (.cells (dcells K N v) 61 (0, 0))) :
    Calls Tryd.prog 52 #[.pointer (some ⟨b, 0, none⟩), flv G] w fun e w' => e = .returned (.tuple #[]) ∧ w'.heap[b]? = some (.cells (dcells G G (.slice none 0 0)) 61 (0, 0)) ∧ But (fun i => i = b) w w' := by
  unfold flv
  have hb := heap_lt h
  obtain ⟨c0, c1, c2, c3, c4, c5, c6, c7, c8, fz⟩ := dcell h
  have H := Lib.hid h
  clear h
  go_enter Tryd.func52, Tryd.ntmps52
  go_wp2
  go_region
  go_wp2
  go_end0
  have s0 := sets_one ⟨H.out, But.refl _ w⟩ 0 (.string (G 0))
  have s1 := sets_one s0 1 (.string (G 1))
  have s2 := sets_one s1 2 (.string (G 2))
  have s3 := sets_one s2 3 (.string (G 3))
  have s4 := sets_one s3 4 (.string (G 0))
  have s5 := sets_one s4 5 (.string (G 1))
  have s6 := sets_one s5 6 (.string (G 2))
  have s7 := sets_one s6 7 (.string (G 3))
  have s8 := sets_one s7 8 (.slice none 0 0)
  have ed : ((((((((((dcells K N v).setIfInBounds 0 (.string (G 0))).setIfInBounds 1 (.string (G 1))).setIfInBounds 2 (.string (G 2))).setIfInBounds 3 (.string (G 3))).setIfInBounds 4 (.string (G 0))).setIfInBounds 5 (.string (G 1))).setIfInBounds 6 (.string (G 2))).setIfInBounds 7 (.string (G 3))).setIfInBounds 8 (.slice none 0 0)) = dcells G G (.slice none 0 0) := by
    simp [dcells]
  rw [ed] at s8
  have fin : ∀ (X : World) (o : Obj) (C : Array Value), (X.heap[b]? = some (.cells C 61 (0, 0)) ∧ But (fun i => i = b) w X) → (X.alloc o).drew.heap[b]? = some (.cells C 61 (0, 0)) ∧ But (fun i => i = b) w (X.alloc o).drew :=
    fun X o C h => ⟨(Below.heap_alloc X o b (heap_lt h.1)).trans h.1, h.2.trans (((Kept.refl X).alloc o).drew).but fun _ _ h => h⟩
  exact ⟨rfl, fin _ _ _ s8⟩

/-- behind a settling all is sure -/
theorem Dsk.settled {w w' : World} {base b : Nat} {K : Dk.Fl} {v : Value} {ws : List Dk.W} (h : Dsk w base b K v ws) (n : Nat) (hb : w'.heap[b]? = some (.cells (dcells (Dk.after K ws n) (Dk.after K ws n) (.slice none 0 0)) 61 (0, 0))) :
    Dsk w' base b (Dk.after K ws n) (.slice none 0 0) [] :=
  ⟨hb, h.low, OffV.nil _ _ _ _, Nat.zero_le _, by simp, h.fits.settle n⟩

set_option maxHeartbeats 400000 in
theorem sync_disk {base b : Nat} {K : Dk.Fl} {v : Value} {ws : List Dk.W} (w : World) (h : Dsk w base b K v ws) :
    Calls Tryd.prog 39 #[.pointer (some ⟨b, 0, none⟩)] w fun e w' => e = .returned (.tuple #[]) ∧ Dsk w' base b (Dk.after K ws (Dk.total ws)) (.slice none 0 0) [] ∧ But (fun i => i = b) w w' := by
  obtain ⟨_, _, _, _, c4, c5, c6, c7, _, _⟩ := dcell h.blk
  have H := Lib.hid h
  have CS := Lib.hid (settle_disk (Dk.after K ws (Dk.total ws)) w K (Dk.after K ws (Dk.total ws)) v h.blk)
  clear h
  generalize hN : Dk.after K ws (Dk.total ws) = N at c4 c5 c6 c7 CS ⊢
  have HN := Lib.hid hN
  clear hN
  unfold flv at CS
  go_enter Tryd.func39, Tryd.ntmps39
  go_wp2_with fail
  refine CS.out.mono ?_
  rintro e w1 ⟨rfl, h1, b1⟩
  rw [← HN.out] at h1
  go_wp2
  go_end0
  exact ⟨rfl, by rw [← HN.out]; exact H.out.settled _ h1, b1⟩

theorem put_file (F : Dk.Fl) (x : Dk.W) (n i : Nat) (h : i ≠ x.file) : Dk.put F x n i = F i := by unfold Dk.put; rw [if_neg h]

/-- a write was done -/
def Did (w w' : World) (base b : Nat) (K : Dk.Fl) (v : Value) (ws : List Dk.W) (x : Dk.W) : Prop :=
  ∃ v', Dsk w' base b K v' (if Dk.units x = 0 then ws else ws ++ [x]) ∧ RWent w v v' ∧ But (fun i => i = b ∨ v.ownBlock = some i) w w'

theorem did_of {w w5 w7 : World} {base b : Nat} {K M : Dk.Fl} {v v' : Value} {ws : List Dk.W} {x : Dk.W} {ob : Obj} (H : Dsk w base b K v ws) (k : But (fun i => i = b) w w5) (h5 : w5.heap[b]? = some (.cells (dcells K M v) 61 (0, 0)))
    (hM : M = Dk.put (Dk.after K ws (Dk.total ws)) x (Dk.units x)) (hu : Dk.units x ≠ 0) (hf : x.file < 4) (hs : x.s.size ≤ 65536) (hl : ws.length < 1000000) (hfit : Dk.Fits K (ws ++ [x]))
    (o : OffV 85 1 w7 base v' (ws.length + 1) (ws.map wv ++ [wv x])) (g : RWent (w5.alloc ob) v v') (b7 : But (fun i => v.ownBlock = some i) (w5.alloc ob) w7) :
    Did w (w7.setCell ⟨b, 8, none⟩ v') base b K v ws x := by
  have k5 : Kept w5 (w5.alloc ob) := (Kept.refl _).alloc _
  have hb5 := (Below.block k5 b (heap_lt h5)).trans h5
  have r5 := H.row.other H.blk (by decide) k
  have h7 := b7.at hb5 fun e => by
    obtain ⟨_, cur, hg⟩ := r5.blk e
    rw [hg] at h5
    cases h5
  obtain ⟨s1, s2⟩ := sets_one ⟨h7, But.refl _ _⟩ 8 v'
  have e : (dcells K M v).setIfInBounds 8 v' = dcells K M v' := by simp [dcells]
  rw [e] at s1
  refine ⟨v', ?_, g.back (Nat.le_trans k.size k5.size), ?_⟩
  · rw [if_neg hu]
    refine ⟨by rw [Dk.now_snoc, ← hM]; exact s1, H.low, ?_, by simp; omega, ?_, hfit⟩
    · have := o.other h7 (by decide) s2
      simpa using this
    · intro y hy
      rcases List.mem_append.1 hy with hy | hy
      · exact H.ok y hy
      · rw [List.mem_singleton.1 hy]; exact ⟨hf, hs⟩
  · exact ((((k.trans k5.but fun _ _ h => (h : False).elim).mono (S' := fun i => i = b ∨ v.ownBlock = some i) fun _ _ h => .inl h).trans b7 fun _ _ h => .inr h).trans s2 fun _ _ h => .inl h)

set_option maxHeartbeats 1000000 in
set_option maxRecDepth 100000 in
theorem do_any {base b : Nat} {K : Dk.Fl} {v : Value} {ws : List Dk.W} (x : Dk.W) (w : World) (h : Dsk w base b K v ws) (hf : x.file < 4) (hs : x.s.size ≤ 65536) (hl : ws.length < 1000000) (hfit : Dk.Fits K (ws ++ [x])) :
    Calls Tryd.prog 50 #[.pointer (some ⟨b, 0, none⟩), .iface (wt x) (wp x)] w fun e w' => e = .returned (.tuple #[]) ∧ Did w w' base b K v ws x := by
  obtain ⟨c0, c1, c2, c3, c4, c5, c6, c7, c8, fz⟩ := dcell h.blk
  have H := Lib.hid h
  clear h
  generalize hN : Dk.after K ws (Dk.total ws) = N at c4 c5 c6 c7
  have HN := Lib.hid hN
  clear hN
  have hb : b < w.heap.size := heap_lt H.out.blk
  have KS : ∀ w' cur, w'.heap[b]? = some (.cells cur 61 (0, 0)) ∧ But (fun i => i = b) (w.alloc (.cells #[.string (N 0), .string (N 1), .string (N 2), .string (N 3)] 58)).drew w' →
      (w'.cell? ⟨w.heap.size, 0, none⟩ = some (.string (N 0)) ∧ w'.cell? ⟨w.heap.size, 1, none⟩ = some (.string (N 1)) ∧ w'.cell? ⟨w.heap.size, 2, none⟩ = some (.string (N 2)) ∧ w'.cell? ⟨w.heap.size, 3, none⟩ = some (.string (N 3))) ∧
      (∀ i, w'.frozen? ⟨b, i, none⟩ = false) := fun w' cur k => by
    have e1 := (k.2.block w.heap.size (by simp) (by omega)).trans (heap_alloc_new w (.cells #[.string (N 0), .string (N 1), .string (N 2), .string (N 3)] 58))
    simp [World.cell?, World.frozen?, e1, k.1]
  have KB : ∀ w', Kept (w.alloc (.cells #[.string (N 0), .string (N 1), .string (N 2), .string (N 3)] 58)).drew w' → w'.heap[b]? = some (.cells (dcells K N v) 61 (0, 0)) := fun w' k => by
    have e2 := (Below.block k b (by simp; omega)).trans ((Below.heap_alloc w (.cells #[.string (N 0), .string (N 1), .string (N 2), .string (N 3)] 58) b hb).trans H.out.blk)
    rwa [HN.out] at e2
  have KSH := Lib.hid KS
  have KBH := Lib.hid KB
  clear KS KB
  have HSZ : Hid ((N x.file).size + Dk.units x ≤ 9223372036854775807) := by
    have h1 := H.out.fits (Dk.total ws) x.file
    rw [HN.out] at h1
    have h2 : Dk.units x ≤ 65536 := by unfold Dk.units; split <;> omega
    show _ ≤ _
    omega
  obtain ⟨M, hM⟩ : ∃ M, M = Dk.put N x (Dk.units x) := ⟨_, rfl⟩
  have HM := Lib.hid hM
  have cw : ∀ w, Calls Tryd.prog 51 #[flv N, .iface (wt x) (wp x), .int .i64 (Dk.units x)] w fun e w' => e = .returned (flv M) ∧ Kept w w' := fun w => by
    rw [hM]; exact with_any N x _ w hf (Nat.le_refl _) HSZ.out
  have CW := Lib.hid cw
  clear cw hM HSZ
  have hme := units_of x
  have hen := units_enter x
  go_enter Tryd.func50, Tryd.ntmps50
  go_wp2
  have ef : flv N = .agg #[.string (N 0), .string (N 1), .string (N 2), .string (N 3)] := rfl
  have EF := Lib.hid ef
  clear ef
  go_region_held3 (fun w' =>
      (w'.cell? ⟨w.heap.size, 0, none⟩ = some (.string (N 0)) ∧ w'.cell? ⟨w.heap.size, 1, none⟩ = some (.string (N 1)) ∧ w'.cell? ⟨w.heap.size, 2, none⟩ = some (.string (N 2)) ∧ w'.cell? ⟨w.heap.size, 3, none⟩ = some (.string (N 3))) ∧
      (∀ i, w'.frozen? ⟨b, i, none⟩ = false))
    (first | exact KSH.out _ _ ⟨KBH.out _ (Kept.refl _), But.refl _ _⟩ | exact KSH.out _ _ ⟨KBH.out _ k2, k2.but⟩ | exact KSH.out _ _ ⟨KBH.out _ k3, k3.but⟩ | exact KSH.out _ _ st3)
    (first
      | (go_at_call 51; rw [← EF.out]; refine (CW.out _).mono ?_; rintro e w3 ⟨rfl, k⟩; have k3 := k2.trans k; obtain ⟨_, _, _, _, d4, d5, d6, d7, d8, _⟩ := dcell (KBH.out _ k3)
         have st3 := sets_one (sets_one (sets_one (sets_one ⟨KBH.out _ k3, k3.but⟩ 4 (.string (M 0))) 5 (.string (M 1))) 6 (.string (M 2))) 7 (.string (M 3)); unfold flv)
      | (refine (units_any x _ hs).mono ?_; rintro e w2 ⟨rfl, k2⟩))
  rename_i hH
  clear hH k k2 d4 d5 d6 d7 d8 k3 c0 c1 c2 c3 c4 c5 c6 c7 c8 fz
  generalize (((w3.setCell ⟨b, 4, none⟩ (.string (M 0))).setCell ⟨b, 5, none⟩ (.string (M 1))).setCell ⟨b, 6, none⟩ (.string (M 2))).setCell ⟨b, 7, none⟩ (.string (M 3)) = w4 at st3 ⊢
  obtain ⟨h4, b4⟩ := st3
  have e4 : ((((dcells K N v).setIfInBounds 4 (.string (M 0))).setIfInBounds 5 (.string (M 1))).setIfInBounds 6 (.string (M 2))).setIfInBounds 7 (.string (M 3)) = dcells K M v := by simp [dcells]
  rw [e4] at h4
  clear e4
  have l4 := (b4.block w.heap.size (by simp) (by omega)).trans (heap_alloc_new w (.cells #[.string (N 0), .string (N 1), .string (N 2), .string (N 3)] 58))
  have KF : ∀ w', Kept w4 w' → (w'.cell? ⟨w.heap.size, 0, none⟩ = some (.string (N 0)) ∧ w'.cell? ⟨w.heap.size, 1, none⟩ = some (.string (N 1)) ∧ w'.cell? ⟨w.heap.size, 2, none⟩ = some (.string (N 2)) ∧ w'.cell? ⟨w.heap.size, 3, none⟩ = some (.string (N 3))) ∧
      (w'.cell? ⟨b, 4, none⟩ = some (.string (M 0)) ∧ w'.cell? ⟨b, 5, none⟩ = some (.string (M 1)) ∧ w'.cell? ⟨b, 6, none⟩ = some (.string (M 2)) ∧ w'.cell? ⟨b, 7, none⟩ = some (.string (M 3))) := fun w' k => by
    have e1 := (Below.block k _ (heap_lt l4)).trans l4
    have e2 := (Below.block k _ (heap_lt h4)).trans h4
    simp [World.cell?, e1, e2, dcells]
  have KFH := Lib.hid KF
  have H4 := Lib.hid h4
  have B4 := Lib.hid b4
  clear KF h4 b4 l4 KSH KBH CW EF
  have q0 := eq_files M N
  generalize hS : samefl M N = S at q0
  have HS := Lib.hid hS
  clear hS
  have KK : ∀ w', Kept w4 w' → But (fun i => i = b) w w' := fun w' k =>
    (((Kept.refl w).alloc _).drew.but.trans B4.out fun _ _ h => h).trans k.but fun i _ h => (h : False).elim
  have KKH := Lib.hid KK
  clear KK
  by_cases hu : Dk.units x = 0
  · obtain rfl : S = true := by rw [← HS.out, HM.out, hu, Dk.put_zero]; exact samefl_refl N
    have u1 : ((Dk.units x : Int) == 0) = true := by rw [hu]; rfl
    have HU := Lib.hid hu
    clear hu
    go_wp2_with fail
    go_region_held3 (fun w' => (w'.cell? ⟨w.heap.size, 0, none⟩ = some (.string (N 0)) ∧ w'.cell? ⟨w.heap.size, 1, none⟩ = some (.string (N 1)) ∧ w'.cell? ⟨w.heap.size, 2, none⟩ = some (.string (N 2)) ∧ w'.cell? ⟨w.heap.size, 3, none⟩ = some (.string (N 3))) ∧
      (w'.cell? ⟨b, 4, none⟩ = some (.string (M 0)) ∧ w'.cell? ⟨b, 5, none⟩ = some (.string (M 1)) ∧ w'.cell? ⟨b, 6, none⟩ = some (.string (M 2)) ∧ w'.cell? ⟨b, 7, none⟩ = some (.string (M 3))))
      (first | exact KFH.out _ ((Kept.refl _).drew) | exact KFH.out _ k5)
      ((refine (units_any x _ hs).mono ?_; rintro e w5 ⟨rfl, k⟩; have k5 := ((Kept.refl w4).drew).trans k))
    have hk5 := Lib.hid k5
    clear k k5 q0
    go_wp2
    refine bodyPost_ret (results_none rfl _ _ _) rfl ?_
    have e5 := (Below.block hk5.out _ (heap_lt H4.out)).trans H4.out
    rw [HM.out, HU.out, Dk.put_zero, ← HN.out] at e5
    refine ⟨rfl, v, ?_, .inl rfl, (KKH.out _ hk5.out).mono fun _ _ h => .inl h⟩
    rw [if_pos HU.out]
    exact ⟨e5, H.out.low, H.out.row.other H.out.blk (by decide) (KKH.out _ hk5.out), H.out.few, H.out.ok, H.out.fits⟩
  · have u1 : ((Dk.units x : Int) == 0) = false := by rw [beq_eq_false_iff_ne]; omega
    have HU := Lib.hid hu
    clear hu
    cases S
    · go_wp2_with fail
      obtain ⟨⟨g0, g1, g2, g3⟩, g4, g5, g6, g7⟩ := KFH.out _ (Kept.refl w4)
      go_quiet (fail)
      clear g0 g1 g2 g3 g4 g5 g6 g7
      have hk5 := Lib.hid (below_drewN (Kept.refl w4) nq)
      clear q0
      generalize w4.drewN nq = w5 at hk5 ⊢
      have h5 := (Below.block hk5.out _ (heap_lt H4.out)).trans H4.out
      have h6 := (Below.heap_alloc w5 (.cells #[.iface (wt x) (wp x)] 85) _ (heap_lt h5)).trans h5
      have c8 : (w5.alloc (.cells #[.iface (wt x) (wp x)] 85)).cell? ⟨b, 8, none⟩ = some v := (dcell h6).2.2.2.2.2.2.2.2.1
      have C5 : w5.cell? ⟨b, 8, none⟩ = some v := (dcell h5).2.2.2.2.2.2.2.2.1
      have R5 := Lib.hid ((H.out.row.other H.out.blk (by decide) (KKH.out _ hk5.out)).kept ((Kept.refl w5).alloc (.cells #[.iface (wt x) (wp x)] 85)))
      have H5 := Lib.hid h5
      have H6 := Lib.hid h6
      have hbs : base ≤ (w5.alloc (.cells #[.iface (wt x) (wp x)] 85)).heap.size := by have := H.out.low; have := heap_lt H6.out; omega
      have HBS := Lib.hid hbs
      clear h5 h6 hbs c8
      go_wp2_with (refine wp_rapp rowW (base := base) (v := v) (n := ws.length) (m := 1) (xs := ws.map wv) (ys := [wv x]) R5.out (Src.one w5 [wv x] 85 rfl (wv_one [x])) (by omega) HBS.out rfl _ _ rfl rfl rfl ?_
                   intro v' w7 o7 g7 b7 _
                   obtain ⟨a7, p7, rfl⟩ := o7.form
                   have hh7 := b7.at H6.out fun e => by
                     obtain ⟨_, cur, hg⟩ := R5.out.blk e
                     rw [hg] at H6
                     cases H6.out
                   have c7 : w7.cell? ⟨b, 8, none⟩ = some v := (dcell hh7).2.2.2.2.2.2.2.2.1
                   have f7 : w7.frozen? ⟨b, 8, none⟩ = false := (dcell hh7).2.2.2.2.2.2.2.2.2 8)
      go_end0
      exact ⟨rfl, did_of H.out (KKH.out _ hk5.out) H5.out (by rw [HN.out]; exact HM.out) HU.out hf hs hl hfit o7 g7 b7⟩
    · go_wp2_with fail
      go_region_held3 (fun w' => (w'.cell? ⟨w.heap.size, 0, none⟩ = some (.string (N 0)) ∧ w'.cell? ⟨w.heap.size, 1, none⟩ = some (.string (N 1)) ∧ w'.cell? ⟨w.heap.size, 2, none⟩ = some (.string (N 2)) ∧ w'.cell? ⟨w.heap.size, 3, none⟩ = some (.string (N 3))) ∧
        (w'.cell? ⟨b, 4, none⟩ = some (.string (M 0)) ∧ w'.cell? ⟨b, 5, none⟩ = some (.string (M 1)) ∧ w'.cell? ⟨b, 6, none⟩ = some (.string (M 2)) ∧ w'.cell? ⟨b, 7, none⟩ = some (.string (M 3))))
        (first | exact KFH.out _ ((Kept.refl _).drew) | exact KFH.out _ k5)
        ((refine (units_any x _ hs).mono ?_; rintro e w5 ⟨rfl, k⟩; have k5 := ((Kept.refl w4).drew).trans k))
      rename_i hH
      clear hH
      have hk5 := Lib.hid k5
      clear k k5 q0
      have h5 := (Below.block hk5.out _ (heap_lt H4.out)).trans H4.out
      have h6 := (Below.heap_alloc w5 (.cells #[.iface (wt x) (wp x)] 85) _ (heap_lt h5)).trans h5
      have c8 : (w5.alloc (.cells #[.iface (wt x) (wp x)] 85)).cell? ⟨b, 8, none⟩ = some v := (dcell h6).2.2.2.2.2.2.2.2.1
      have C5 : w5.cell? ⟨b, 8, none⟩ = some v := (dcell h5).2.2.2.2.2.2.2.2.1
      have R5 := Lib.hid ((H.out.row.other H.out.blk (by decide) (KKH.out _ hk5.out)).kept ((Kept.refl w5).alloc (.cells #[.iface (wt x) (wp x)] 85)))
      have H5 := Lib.hid h5
      have H6 := Lib.hid h6
      have hbs : base ≤ (w5.alloc (.cells #[.iface (wt x) (wp x)] 85)).heap.size := by have := H.out.low; have := heap_lt H6.out; omega
      have HBS := Lib.hid hbs
      clear h5 h6 hbs c8
      go_wp2_with (refine wp_rapp rowW (base := base) (v := v) (n := ws.length) (m := 1) (xs := ws.map wv) (ys := [wv x]) R5.out (Src.one w5 [wv x] 85 rfl (wv_one [x])) (by omega) HBS.out rfl _ _ rfl rfl rfl ?_
                   intro v' w7 o7 g7 b7 _
                   obtain ⟨a7, p7, rfl⟩ := o7.form
                   have hh7 := b7.at H6.out fun e => by
                     obtain ⟨_, cur, hg⟩ := R5.out.blk e
                     rw [hg] at H6
                     cases H6.out
                   have c7 : w7.cell? ⟨b, 8, none⟩ = some v := (dcell hh7).2.2.2.2.2.2.2.2.1
                   have f7 : w7.frozen? ⟨b, 8, none⟩ = false := (dcell hh7).2.2.2.2.2.2.2.2.2 8)
      go_end0
      exact ⟨rfl, did_of H.out (KKH.out _ hk5.out) H5.out (by rw [HN.out]; exact HM.out) HU.out hf hs hl hfit o7 g7 b7⟩
end Go.Proofs.YtenhncohhikllaaDoor
