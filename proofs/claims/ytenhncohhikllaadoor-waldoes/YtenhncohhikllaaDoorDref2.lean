/-
  The walks of the document's disk: Read, Kept, Append, Replace, Crash, Sync, Copy.
-/
import Derived.Test.YtenhncohhikllaaDoorDref
namespace Go.Proofs.YtenhncohhikllaaDoor
open Go.ChangeShapes Go.WideShapes Go.ChangeAt Go.RowKit

theorem rread_any {r base : Nat} {B : Dk.Fl} {v : Value} {W : List Dk.W} (f : Int) (w : World) (h : RD w base r B v W) :
    Calls Tryd.prog 28 #[.pointer (some ⟨r, 0, none⟩), .int .i64 f] w fun e w' => e = .returned (.string (if 0 ≤ f ∧ f < 4 then Dk.after B W (Dk.total W) f.toNat else ⟨#[]⟩)) ∧ Kept w w' := by
  have H := Lib.hid h
  have hsm := h.small
  clear h
  by_cases h0 : 0 ≤ f
  · by_cases h4 : f < 4
    · obtain ⟨k, rfl⟩ : ∃ k : Nat, f = (k : Int) := ⟨f.toNat, by omega⟩
      have hk : k < 4 := by omega
      rw [if_pos ⟨h0, h4⟩, Int.toNat_natCast]
      have t1 : ¬ ((k : Int) < 0) := by omega
      have t2 : ¬ (3 < (k : Int)) := by omega
      clear h0 h4
      go_enter Tryd.func28, Tryd.ntmps28
      go_wp2_with fail
      refine (runits_any _ H.out).mono ?_
      rintro e w1 ⟨rfl, rfl⟩
      go_wp2_with fail
      refine (rafter_any k (Dk.total W) _ H.out hk (Nat.le_refl _)).mono ?_
      rintro e w2 ⟨rfl, k2⟩
      go_wp2
      go_ret
      exact ⟨rfl, k2⟩
    · rw [if_neg (fun x => h4 x.2)]
      have t1 : ¬ (f < 0) := by omega
      have t2 : 3 < f := by omega
      clear h0 h4
      go_enter Tryd.func28, Tryd.ntmps28
      go_wp2
      go_ret
      exact ⟨rfl, Kept.refl _⟩
  · rw [if_neg (fun x => h0 x.1)]
    have t1 : f < 0 := by omega
    clear h0
    go_enter Tryd.func28, Tryd.ntmps28
    go_wp2
    go_ret
    exact ⟨rfl, Kept.refl _⟩
theorem rkept_any {r base : Nat} {B : Dk.Fl} {v : Value} {W : List Dk.W} (f : Int) (w : World) (h : RD w base r B v W) :
    Calls Tryd.prog 44 #[.pointer (some ⟨r, 0, none⟩), .int .i64 f] w fun e w' => e = .returned (.string (if 0 ≤ f ∧ f < 4 then B f.toNat else ⟨#[]⟩)) ∧ Kept w w' := by
  by_cases h0 : 0 ≤ f
  · by_cases h4 : f < 4
    · obtain ⟨k, rfl⟩ : ∃ k : Nat, f = (k : Int) := ⟨f.toNat, by omega⟩
      have hk : k < 4 := by omega
      rw [if_pos ⟨h0, h4⟩, Int.toNat_natCast]
      have t1 : ¬ ((k : Int) < 0) := by omega
      have t2 : ¬ (3 < (k : Int)) := by omega
      have c := rcell_at h.blk k hk
      clear h0 h4 h
      go_enter Tryd.func44, Tryd.ntmps44
      go_wp2
      go_ret
      exact ⟨rfl, Kept.refl _⟩
    · rw [if_neg (fun x => h4 x.2)]
      have t1 : ¬ (f < 0) := by omega
      have t2 : 3 < f := by omega
      clear h0 h4 h
      go_enter Tryd.func44, Tryd.ntmps44
      go_wp2
      go_ret
      exact ⟨rfl, Kept.refl _⟩
  · rw [if_neg (fun x => h0 x.1)]
    have t1 : f < 0 := by omega
    clear h0 h
    go_enter Tryd.func44, Tryd.ntmps44
    go_wp2
    go_ret
    exact ⟨rfl, Kept.refl _⟩

/-- a write was done: the document's disk behind it -/
def RWrote (w w' : World) (base r : Nat) (B : Dk.Fl) (v : Value) (W : List Dk.W) : Prop := ∃ v', RD w' base r B v' W ∧ RWent w v v' ∧ But (fun i => i = r ∨ v.ownBlock = some i) w w'
theorem rwrote_of {w w5 w7 : World} {base r : Nat} {B : Dk.Fl} {v v' : Value} {W : List Dk.W} {x : Dk.W} {ob : Obj} (H : RD w base r B v W) (k : Kept w w5)
    (hf : x.file < 4) (hs : x.s.size ≤ 65536) (hl : W.length < 1000000) (hfit : Dk.Fits B (W ++ [x]))
    (o : OffV 83 3 w7 base v' (W.length + 1) (W.flatMap rw3 ++ rw3 x)) (g : RWent (w5.alloc ob) v v') (b7 : But (fun i => v.ownBlock = some i) (w5.alloc ob) w7) :
    RWrote w (w7.setCell ⟨r, 4, none⟩ v') base r B v (W ++ [x]) := by
  have k5 : Kept w (w5.alloc ob) := k.alloc _
  have H5 := H.kept k5
  have h7 := b7.at H5.blk fun e => by
    obtain ⟨_, cur, hg⟩ := H5.row.blk e
    have := H5.blk
    rw [hg] at this
    cases this
  obtain ⟨s1, s2⟩ := sets_one ⟨h7, But.refl _ _⟩ 4 v'
  have e : (rcells B v).setIfInBounds 4 v' = rcells B v' := by simp [rcells]
  rw [e] at s1
  refine ⟨v', ⟨s1, H.low, ?_, by simp; omega, ?_, hfit⟩, g.back k5.size, ?_⟩
  · have := o.other h7 (by decide) s2
    simpa using this
  · intro y hy
    rcases List.mem_append.1 hy with hy | hy
    · exact H.ok y hy
    · rw [List.mem_singleton.1 hy]; exact ⟨hf, hs⟩
  · exact ((k5.but (S := fun i => i = r ∨ v.ownBlock = some i)).trans b7 fun _ _ h => .inr h).trans s2 fun _ _ h => .inl h

theorem rapp_bad (r : Nat) (f : Int) (s : ByteArray) (w : World) (h : ¬ (0 ≤ f ∧ f < 4)) :
    Calls Tryd.prog 21 #[.pointer (some ⟨r, 0, none⟩), .int .i64 f, .string s] w fun e w' => e = .returned (.int .i64 1) ∧ Kept w w' := by
  by_cases h0 : f < 0
  · clear h
    go_enter Tryd.func21, Tryd.ntmps21
    go_wp2
    go_ret
    exact ⟨rfl, Kept.refl _⟩
  · have h3 : 3 < f := by omega
    clear h
    go_enter Tryd.func21, Tryd.ntmps21
    go_wp2
    go_ret
    exact ⟨rfl, Kept.refl _⟩
theorem rrep_bad (r : Nat) (f : Int) (s : ByteArray) (w : World) (h : ¬ (0 ≤ f ∧ f < 4)) :
    Calls Tryd.prog 26 #[.pointer (some ⟨r, 0, none⟩), .int .i64 f, .string s] w fun e w' => e = .returned (.int .i64 1) ∧ Kept w w' := by
  by_cases h0 : f < 0
  · clear h
    go_enter Tryd.func26, Tryd.ntmps26
    go_wp2
    go_ret
    exact ⟨rfl, Kept.refl _⟩
  · have h3 : 3 < f := by omega
    clear h
    go_enter Tryd.func26, Tryd.ntmps26
    go_wp2
    go_ret
    exact ⟨rfl, Kept.refl _⟩

/-- the facts that an append to the document's row wants -/
theorem rrow_set {w w5 : World} {base r : Nat} {B : Dk.Fl} {v : Value} {W : List Dk.W} (H : RD w base r B v W) (k : Kept w w5) (ob : Obj) :
    OffV 83 3 (w5.alloc ob) base v W.length (W.flatMap rw3) ∧ base ≤ (w5.alloc ob).heap.size ∧ (w5.alloc ob).heap[r]? = some (.cells (rcells B v) 30 (0, 0)) ∧ w5.cell? ⟨r, 4, none⟩ = some v := by
  have H5 := H.kept k
  have H6 := H5.kept ((Kept.refl w5).alloc ob)
  exact ⟨H6.row, by have := H6.low; have := heap_lt H6.blk; omega, H6.blk, (rcell H5.blk).2.2.2.2.1⟩

set_option maxHeartbeats 1000000 in
theorem rrep_ok {r base : Nat} {B : Dk.Fl} {v : Value} {W : List Dk.W} (f : Nat) (s : ByteArray) (w : World) (hd : RD w base r B v W) (hf : f < 4) (hs : s.size ≤ 65536) (hl : W.length < 1000000) :
    Calls Tryd.prog 26 #[.pointer (some ⟨r, 0, none⟩), .int .i64 f, .string s] w fun e w' => e = .returned (.int .i64 0) ∧ RWrote w w' base r B v (W ++ [⟨f, s, true⟩]) := by
  have H := Lib.hid hd
  clear hd
  obtain ⟨r1, r2, r3, c4⟩ := rrow_set H.out (Kept.refl w) (.cells #[.int .i64 f, .string s, .bool true] 83)
  have R1 := Lib.hid r1
  have R2 := Lib.hid r2
  have R3 := Lib.hid r3
  clear r1 r2 r3
  have t1 : ¬ ((f : Int) < 0) := by omega
  have t2 : ¬ (3 < (f : Int)) := by omega
  go_enter Tryd.func26, Tryd.ntmps26
  go_wp2_with (refine wp_rapp rowR (base := base) (v := v) (n := W.length) (m := 1) (xs := W.flatMap rw3) (ys := rw3 ⟨f, s, true⟩) R1.out (Src.one w (rw3 ⟨f, s, true⟩) 83 rfl (by simp only [rw3, List.mem_cons, List.not_mem_nil, or_false]; rintro y (rfl | rfl | rfl) <;> rfl)) (by omega) R2.out rfl _ _ rfl rfl rfl ?_
               intro v' w7 o7 g7 b7 _
               obtain ⟨a7, p7, rfl⟩ := o7.form
               have hh7 := b7.at R3.out fun e => by
                 obtain ⟨_, cur, hg⟩ := R1.out.blk e
                 rw [hg] at R3
                 cases R3.out
               have c7 : w7.cell? ⟨r, 4, none⟩ = some v := (rcell hh7).2.2.2.2.1
               have f7 : w7.frozen? ⟨r, 4, none⟩ = false := (rcell hh7).2.2.2.2.2 4)
  go_ret
  exact ⟨rfl, rwrote_of H.out (Kept.refl w) hf hs hl (H.out.fits.snoc _ hs (.inl rfl)) o7 g7 b7⟩
set_option maxHeartbeats 1000000 in
theorem rapp_ok {r base : Nat} {B : Dk.Fl} {v : Value} {W : List Dk.W} (f : Nat) (s : ByteArray) (w : World) (hd : RD w base r B v W) (hf : f < 4) (hs : (Dk.after B W (Dk.total W) f).size + s.size ≤ 65536) (hl : W.length < 1000000) :
    Calls Tryd.prog 21 #[.pointer (some ⟨r, 0, none⟩), .int .i64 f, .string s] w fun e w' => e = .returned (.int .i64 0) ∧ RWrote w w' base r B v (W ++ [⟨f, s, false⟩]) := by
  have H := Lib.hid hd
  clear hd
  have HFIT := Lib.hid (H.out.fits.snoc ⟨f, s, false⟩ (by simp only; omega) (.inr hs))
  have CR := Lib.hid (rread_any (f : Int) w H.out)
  have e0 : (if 0 ≤ (f : Int) ∧ (f : Int) < 4 then Dk.after B W (Dk.total W) (f : Int).toNat else ⟨#[]⟩) = Dk.after B W (Dk.total W) f := now_at B W f hf
  rw [e0] at CR
  clear e0
  generalize Dk.after B W (Dk.total W) f = T at hs CR
  have t1 : ¬ ((f : Int) < 0) := by omega
  have t2 : ¬ (3 < (f : Int)) := by omega
  have hT : T.size ≤ 65536 := by omega
  have hs1 : s.size ≤ 65536 := by omega
  have hlt : ¬ (65536 < (T.size : Int) + (s.size : Int)) := by omega
  go_enter Tryd.func21, Tryd.ntmps21
  go_wp2_with fail
  refine CR.out.mono ?_
  rintro e w5 ⟨rfl, k5⟩
  have K5 := Lib.hid k5
  clear k5 CR
  obtain ⟨r1, r2, r3, c4⟩ := rrow_set H.out K5.out (.cells #[.int .i64 f, .string s, .bool false] 83)
  have R1 := Lib.hid r1
  have R2 := Lib.hid r2
  have R3 := Lib.hid r3
  clear r1 r2 r3
  go_wp2_with (refine wp_rapp rowR (base := base) (v := v) (n := W.length) (m := 1) (xs := W.flatMap rw3) (ys := rw3 ⟨f, s, false⟩) R1.out (Src.one w5 (rw3 ⟨f, s, false⟩) 83 rfl (by simp only [rw3, List.mem_cons, List.not_mem_nil, or_false]; rintro y (rfl | rfl | rfl) <;> rfl)) (by omega) R2.out rfl _ _ rfl rfl rfl ?_
               intro v' w7 o7 g7 b7 _
               obtain ⟨a7, p7, rfl⟩ := o7.form
               have hh7 := b7.at R3.out fun e => by
                 obtain ⟨_, cur, hg⟩ := R1.out.blk e
                 rw [hg] at R3
                 cases R3.out
               have c7 : w7.cell? ⟨r, 4, none⟩ = some v := (rcell hh7).2.2.2.2.1
               have f7 : w7.frozen? ⟨r, 4, none⟩ = false := (rcell hh7).2.2.2.2.2 4)
  go_ret
  exact ⟨rfl, rwrote_of H.out K5.out hf hs1 hl HFIT.out o7 g7 b7⟩
end Go.Proofs.YtenhncohhikllaaDoor
