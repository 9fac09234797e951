/-
  The methods of the parts that are numbers (written by program: the three are alike).
-/
import Derived.Test.YtlfmpoinjbmjoaaGreatDoorFkinds
import Derived.Test.YtlfmpoinjbmjoaaGreatDoorEmark
import Derived.Test.YtlfmpoinjbmjoaaGreatDoorRquiet
namespace Go.Proofs.YtlfmpoinjbmjoaaGreatDoor
open Go.ChangeShapes Go.WideShapes Go.ChangeAt Go.RowKit

/-- a frame as a value; its cells -/
def frc (f : Fr.F) (av : Option Addr) (cap : Nat) : Array Value := #[.int .i64 f.k, .int .i64 f.ep, .int .i64 f.sq, .int .i64 f.cr, .bool f.on, .string f.fl, .int .i64 f.e.o, .int .i64 f.e.s, .string f.e.t, .string f.e.l, .int .i64 f.e.d, .slice av f.ms.length cap]
def frv (f : Fr.F) (av : Option Addr) (cap : Nat) : Value := .agg (frc f av cap)
/-- an int that a machine may hold -/
def I64 (n : Int) : Prop := -9223372036854775808 ≤ n ∧ n ≤ 9223372036854775807
/-- numbers and texts that a machine may hold, and marks that lie in memory -/
structure FrS (w : World) (f : Fr.F) (av : Option Addr) (cap : Nat) : Prop where
  k : I64 f.k
  ep : I64 f.ep
  sq : I64 f.sq
  cr : I64 f.cr
  fl : f.fl.size ≤ 65536
  et : f.e.t.size ≤ 65536
  e : Fit f.e
  ms : MkS w av cap f.ms
theorem FrS.kept {w w' : World} {f : Fr.F} {av : Option Addr} {cap : Nat} (h : FrS w f av cap) (k : Kept w w') : FrS w' f av cap := ⟨h.k, h.ep, h.sq, h.cr, h.fl, h.et, h.e, h.ms.kept k⟩
theorem cell_of {w : World} {g : Nat} {cs : Array Value} {t : TypeId} (h : Blk w g cs t) (i : Nat) {v : Value} (hv : cs[i]? = some v) : w.cell? ⟨g, i, none⟩ = some v := (h.cell i).trans hv
end Go.Proofs.YtlfmpoinjbmjoaaGreatDoor

namespace Go.Proofs.YtlfmpoinjbmjoaaGreatDoor
open Go.ChangeShapes Go.WideShapes Go.ChangeAt Go.RowKit


set_option maxHeartbeats 400000 in
theorem ep_right (x : Int) (g : Nat) (w : World) (hc : w.cell? ⟨g, 1, none⟩ = some (.int .i64 x)) :
    Calls Tryz.prog 107 #[epv, .pointer (some ⟨g, 0, none⟩)] w fun r w' => r = .returned (.bool (decide (1 ≤ x ∧ x ≤ 1099511627776))) ∧ Kept w w' := by
  unfold epv
  by_cases h1 : 1 ≤ x
  · by_cases h2 : x ≤ 1099511627776
    · have e : decide (1 ≤ x ∧ x ≤ 1099511627776) = true := decide_eq_true ⟨h1, h2⟩
      rw [e]
      clear e
      go_enter Tryz.func107, Tryz.ntmps107
      go_wp2_with fail
      have b := Blk.made w #[.func (.func 61) #[] #[], .int .i64 1, .int .i64 1099511627776] 93
      have kx : Kept w (w.alloc (.cells #[.func (.func 61) #[] #[], .int .i64 1, .int .i64 1099511627776] 93)) := (Kept.refl w).alloc _
      have hc' := (Below.cell kx (p := ⟨g, 1, none⟩) (World.block_lt_of_cell? w _ hc)).trans hc
      obtain ⟨W, hW⟩ : ∃ W, W = w.alloc (.cells #[.func (.func 61) #[] #[], .int .i64 1, .int .i64 1099511627776] 93) := ⟨_, rfl⟩
      rw [← hW] at b kx hc' ⊢
      have s0 := KW.cell (cell_of b 0 rfl)
      have s1 := KW.cell (cell_of b 1 rfl)
      have s2 := KW.cell (cell_of b 2 rfl)
      have s3 := KW.cell hc'
      have ca : ∀ p : KW W, Calls Tryz.prog 61 #[.pointer (some ⟨g, 0, none⟩)] p.v fun r w' => r = .returned (.pointer (some ⟨g, 1, none⟩)) ∧ Kept p.v w' := fun p => (epoch_any g p.v).mono fun _ _ ⟨h, k⟩ => ⟨h, k ▸ Kept.refl _⟩
      have CA := Lib.hid ca
      have KX := Lib.hid kx
      clear ca b hc hc' kx hW
      have nn : Nonempty (KW W) := ⟨⟨W, Kept.refl W⟩⟩
      have q1 : decide (1 ≤ x) = true := by simp; omega
      clear h1
      have q2 : decide (x ≤ 1099511627776) = true := by simp; omega
      clear h2
      refine wp_region_kept (by kernel_rfl) (by kernel_rfl) ?_
      repeat (go_big_quiet_step ((go_at_call 61; with_reducible exact KW.calls _ (CA.out _))))
      refine wpQuiet_nil ?_
      intro w6 hw6
      have kk6 : Kept w w6 := by
        obtain ⟨p, rfl⟩ := hw6
        exact KX.out.trans p.h
      clear hw6 nn s0 s1 s2 s3
      go_wp2
      go_ret
      exact ⟨rfl, kk6⟩
    · have e : decide (1 ≤ x ∧ x ≤ 1099511627776) = false := decide_eq_false fun h => h2 h.2
      rw [e]
      clear e
      go_enter Tryz.func107, Tryz.ntmps107
      go_wp2_with fail
      have b := Blk.made w #[.func (.func 61) #[] #[], .int .i64 1, .int .i64 1099511627776] 93
      have kx : Kept w (w.alloc (.cells #[.func (.func 61) #[] #[], .int .i64 1, .int .i64 1099511627776] 93)) := (Kept.refl w).alloc _
      have hc' := (Below.cell kx (p := ⟨g, 1, none⟩) (World.block_lt_of_cell? w _ hc)).trans hc
      obtain ⟨W, hW⟩ : ∃ W, W = w.alloc (.cells #[.func (.func 61) #[] #[], .int .i64 1, .int .i64 1099511627776] 93) := ⟨_, rfl⟩
      rw [← hW] at b kx hc' ⊢
      have s0 := KW.cell (cell_of b 0 rfl)
      have s1 := KW.cell (cell_of b 1 rfl)
      have s2 := KW.cell (cell_of b 2 rfl)
      have s3 := KW.cell hc'
      have ca : ∀ p : KW W, Calls Tryz.prog 61 #[.pointer (some ⟨g, 0, none⟩)] p.v fun r w' => r = .returned (.pointer (some ⟨g, 1, none⟩)) ∧ Kept p.v w' := fun p => (epoch_any g p.v).mono fun _ _ ⟨h, k⟩ => ⟨h, k ▸ Kept.refl _⟩
      have CA := Lib.hid ca
      have KX := Lib.hid kx
      clear ca b hc hc' kx hW
      have nn : Nonempty (KW W) := ⟨⟨W, Kept.refl W⟩⟩
      have q1 : decide (1 ≤ x) = true := by simp; omega
      clear h1
      have q2 : decide (x ≤ 1099511627776) = false := by simp; omega
      clear h2
      refine wp_region_kept (by kernel_rfl) (by kernel_rfl) ?_
      repeat (go_big_quiet_step ((go_at_call 61; with_reducible exact KW.calls _ (CA.out _))))
      refine wpQuiet_nil ?_
      intro w6 hw6
      have kk6 : Kept w w6 := by
        obtain ⟨p, rfl⟩ := hw6
        exact KX.out.trans p.h
      clear hw6 nn s0 s1 s2 s3
      go_wp2
      go_ret
      exact ⟨rfl, kk6⟩
  · have e : decide (1 ≤ x ∧ x ≤ 1099511627776) = false := decide_eq_false fun h => h1 h.1
    rw [e]
    clear e
    go_enter Tryz.func107, Tryz.ntmps107
    go_wp2_with fail
    have b := Blk.made w #[.func (.func 61) #[] #[], .int .i64 1, .int .i64 1099511627776] 93
    have kx : Kept w (w.alloc (.cells #[.func (.func 61) #[] #[], .int .i64 1, .int .i64 1099511627776] 93)) := (Kept.refl w).alloc _
    have hc' := (Below.cell kx (p := ⟨g, 1, none⟩) (World.block_lt_of_cell? w _ hc)).trans hc
    obtain ⟨W, hW⟩ : ∃ W, W = w.alloc (.cells #[.func (.func 61) #[] #[], .int .i64 1, .int .i64 1099511627776] 93) := ⟨_, rfl⟩
    rw [← hW] at b kx hc' ⊢
    have s0 := KW.cell (cell_of b 0 rfl)
    have s1 := KW.cell (cell_of b 1 rfl)
    have s2 := KW.cell (cell_of b 2 rfl)
    have s3 := KW.cell hc'
    have ca : ∀ p : KW W, Calls Tryz.prog 61 #[.pointer (some ⟨g, 0, none⟩)] p.v fun r w' => r = .returned (.pointer (some ⟨g, 1, none⟩)) ∧ Kept p.v w' := fun p => (epoch_any g p.v).mono fun _ _ ⟨h, k⟩ => ⟨h, k ▸ Kept.refl _⟩
    have CA := Lib.hid ca
    have KX := Lib.hid kx
    clear ca b hc hc' kx hW
    have nn : Nonempty (KW W) := ⟨⟨W, Kept.refl W⟩⟩
    have q1 : decide (1 ≤ x) = false := by simp; omega
    clear h1
    refine wp_region_kept (by kernel_rfl) (by kernel_rfl) ?_
    repeat (go_big_quiet_step ((go_at_call 61; with_reducible exact KW.calls _ (CA.out _))))
    refine wpQuiet_nil ?_
    intro w6 hw6
    have kk6 : Kept w w6 := by
      obtain ⟨p, rfl⟩ := hw6
      exact KX.out.trans p.h
    clear hw6 nn s0 s1 s2 s3
    go_wp2
    go_ret
    exact ⟨rfl, kk6⟩


set_option maxHeartbeats 400000 in
theorem ep_put (x : Int) (g : Nat) (w : World) (hc : w.cell? ⟨g, 1, none⟩ = some (.int .i64 x)) (h0 : 0 ≤ x) (h1 : x ≤ 1099511627776) (hT : Tab w) :
    Calls Tryz.prog 106 #[epv, .pointer (some ⟨g, 0, none⟩)] w fun r w' => r = .returned (str (Vn.vput x.toNat)) ∧ Kept w w' := by
  unfold epv
  have hlt := World.block_lt_of_cell? w _ hc
  have HT := Lib.hid hT
  clear hT
  go_enter Tryz.func106, Tryz.ntmps106
  go_wp2_with fail
  refine (epoch_any g _).mono ?_
  rintro r w1 ⟨rfl, rfl⟩
  have kx : Kept w (w.alloc (.cells #[.func (.func 61) #[] #[], .int .i64 1, .int .i64 1099511627776] 93)) := (Kept.refl w).alloc _
  have hc' := (Below.cell kx (p := ⟨g, 1, none⟩) hlt).trans hc
  clear hc
  obtain ⟨W, hW⟩ : ∃ W, W = w.alloc (.cells #[.func (.func 61) #[] #[], .int .i64 1, .int .i64 1099511627776] 93) := ⟨_, rfl⟩
  rw [← hW] at kx hc' ⊢
  have KX := Lib.hid kx
  clear kx hW
  go_wp2_with fail
  refine (put_any _ _ h0 (by omega) (HT.out.kept KX.out)).mono ?_
  rintro r w2 ⟨rfl, k2⟩
  have K2 := Lib.hid (KX.out.trans k2)
  clear k2
  obtain ⟨A, hA, _, _⟩ := name_put x.toNat
  have HA := Lib.hid hA
  rw [hA]
  clear hA
  go_wp2
  go_ret
  exact ⟨by rw [HA.out]; rfl, K2.out⟩

set_option maxHeartbeats 400000 in
theorem ep_drop (v0 : Value) (g : Nat) (w : World) (hc : w.cell? ⟨g, 1, none⟩ = some v0) (hf : w.frozen? ⟨g, 1, none⟩ = false) :
    Calls Tryz.prog 104 #[epv, .pointer (some ⟨g, 0, none⟩)] w fun r w' => r = .returned (.tuple #[]) ∧ ∃ w1, Kept w w1 ∧ w' = w1.setCell ⟨g, 1, none⟩ (.int .i64 0) := by
  unfold epv
  have hlt := World.block_lt_of_cell? w _ hc
  go_enter Tryz.func104, Tryz.ntmps104
  go_wp2_with fail
  refine (epoch_any g _).mono ?_
  rintro r w1 ⟨rfl, rfl⟩
  have kx : Kept w (w.alloc (.cells #[.func (.func 61) #[] #[], .int .i64 1, .int .i64 1099511627776] 93)) := (Kept.refl w).alloc _
  have hc' := (Below.cell kx (p := ⟨g, 1, none⟩) hlt).trans hc
  have hf' := (Below.frozen kx (p := ⟨g, 1, none⟩) hlt).trans hf
  clear hc hf
  obtain ⟨W, hW⟩ : ∃ W, W = w.alloc (.cells #[.func (.func 61) #[] #[], .int .i64 1, .int .i64 1099511627776] 93) := ⟨_, rfl⟩
  rw [← hW] at kx hc' hf' ⊢
  have KX := Lib.hid kx
  clear kx hW
  go_wp2
  go_end0
  exact ⟨rfl, W, KX.out, rfl⟩

set_option maxHeartbeats 400000 in
theorem ep_get (s : ByteArray) (a : Nat) (v0 : Value) (g : Nat) (w : World) (hs : s.size ≤ 65536) (ha : a ≤ 65536) (hT : Tab w) (hc : w.cell? ⟨g, 1, none⟩ = some v0) (hf : w.frozen? ⟨g, 1, none⟩ = false) :
    Calls Tryz.prog 105 #[epv, .pointer (some ⟨g, 0, none⟩), .string s, .int .i64 a] w fun r w' => r = .returned (.tuple #[.int .i64 (vget s.data.toList a).2.1, .int .i64 (vget s.data.toList a).2.2]) ∧ ∃ w1, Kept w w1 ∧ w' = w1.setCell ⟨g, 1, none⟩ (.int .i64 (Ev.clip (vget s.data.toList a).1)) := by
  unfold epv
  have hlt := World.block_lt_of_cell? w _ hc
  have HT := Lib.hid hT
  clear hT
  go_enter Tryz.func105, Tryz.ntmps105
  have hg := (vget_le s.data.toList a).1
  obtain ⟨⟨n', t, er⟩, hv⟩ : ∃ x, x = vget s.data.toList a := ⟨_, rfl⟩
  rw [← hv] at hg ⊢
  simp only at hg ⊢
  have hm : (min (n' : Int) 1099511627777) = ((Ev.clip n' : Nat) : Int) := by unfold Ev.clip; omega
  have hm2 : Ev.clip n' ≤ 1099511627777 := by unfold Ev.clip; omega
  have Hm := Lib.hid hm
  have Hv := Lib.hid hv
  clear hm hv
  go_wp2_with fail
  have kx : Kept w (w.alloc (.cells #[.func (.func 61) #[] #[], .int .i64 1, .int .i64 1099511627776] 93)) := (Kept.refl w).alloc _
  have bx := Blk.made w #[.func (.func 61) #[] #[], .int .i64 1, .int .i64 1099511627776] 93
  have hc' := (Below.cell kx (p := ⟨g, 1, none⟩) hlt).trans hc
  have hf' := (Below.frozen kx (p := ⟨g, 1, none⟩) hlt).trans hf
  obtain ⟨W, hW⟩ : ∃ W, W = w.alloc (.cells #[.func (.func 61) #[] #[], .int .i64 1, .int .i64 1099511627776] 93) := ⟨_, rfl⟩
  rw [← hW] at kx bx hc' hf' ⊢
  have KX := Lib.hid kx
  have hltW := World.block_lt_of_cell? W _ hc'
  clear kx hW hc hf
  refine (get_any s a _ (by unfold maxLen; omega) (by omega) (by omega) (HT.out.kept KX.out)).mono ?_
  rintro r w2 ⟨rfl, k2⟩
  rw [← Hv.out]
  unfold tup
  simp only
  have d0 := cell_of (bx.kept k2) 0 rfl
  have c2 := (Below.cell k2 (p := ⟨g, 1, none⟩) hltW).trans hc'
  have f2 := (Below.frozen k2 (p := ⟨g, 1, none⟩) hltW).trans hf'
  have K2 := Lib.hid (KX.out.trans k2)
  clear k2 hc' hf' bx
  go_wp2_with fail
  refine (epoch_any g _).mono ?_
  rintro r w3 ⟨rfl, rfl⟩
  go_wp2
  go_ret2
  exact ⟨rfl, w3, K2.out, by rw [Hm.out]⟩


set_option maxHeartbeats 400000 in
theorem sq_right (n : Int) (x : Int) (g : Nat) (w : World) (hc : w.cell? ⟨g, 2, none⟩ = some (.int .i64 x)) :
    Calls Tryz.prog 107 #[(sqv n), .pointer (some ⟨g, 0, none⟩)] w fun r w' => r = .returned (.bool (decide (n ≤ x ∧ x ≤ 1099511627776))) ∧ Kept w w' := by
  unfold sqv
  by_cases h1 : n ≤ x
  · by_cases h2 : x ≤ 1099511627776
    · have e : decide (n ≤ x ∧ x ≤ 1099511627776) = true := decide_eq_true ⟨h1, h2⟩
      rw [e]
      clear e
      go_enter Tryz.func107, Tryz.ntmps107
      go_wp2_with fail
      have b := Blk.made w #[.func (.func 64) #[] #[], .int .i64 n, .int .i64 1099511627776] 93
      have kx : Kept w (w.alloc (.cells #[.func (.func 64) #[] #[], .int .i64 n, .int .i64 1099511627776] 93)) := (Kept.refl w).alloc _
      have hc' := (Below.cell kx (p := ⟨g, 2, none⟩) (World.block_lt_of_cell? w _ hc)).trans hc
      obtain ⟨W, hW⟩ : ∃ W, W = w.alloc (.cells #[.func (.func 64) #[] #[], .int .i64 n, .int .i64 1099511627776] 93) := ⟨_, rfl⟩
      rw [← hW] at b kx hc' ⊢
      have s0 := KW.cell (cell_of b 0 rfl)
      have s1 := KW.cell (cell_of b 1 rfl)
      have s2 := KW.cell (cell_of b 2 rfl)
      have s3 := KW.cell hc'
      have ca : ∀ p : KW W, Calls Tryz.prog 64 #[.pointer (some ⟨g, 0, none⟩)] p.v fun r w' => r = .returned (.pointer (some ⟨g, 2, none⟩)) ∧ Kept p.v w' := fun p => (sequence_any g p.v).mono fun _ _ ⟨h, k⟩ => ⟨h, k ▸ Kept.refl _⟩
      have CA := Lib.hid ca
      have KX := Lib.hid kx
      clear ca b hc hc' kx hW
      have nn : Nonempty (KW W) := ⟨⟨W, Kept.refl W⟩⟩
      have q1 : decide (n ≤ x) = true := by simp; omega
      clear h1
      have q2 : decide (x ≤ 1099511627776) = true := by simp; omega
      clear h2
      refine wp_region_kept (by kernel_rfl) (by kernel_rfl) ?_
      repeat (go_big_quiet_step ((go_at_call 64; with_reducible exact KW.calls _ (CA.out _))))
      refine wpQuiet_nil ?_
      intro w6 hw6
      have kk6 : Kept w w6 := by
        obtain ⟨p, rfl⟩ := hw6
        exact KX.out.trans p.h
      clear hw6 nn s0 s1 s2 s3
      go_wp2
      go_ret
      exact ⟨rfl, kk6⟩
    · have e : decide (n ≤ x ∧ x ≤ 1099511627776) = false := decide_eq_false fun h => h2 h.2
      rw [e]
      clear e
      go_enter Tryz.func107, Tryz.ntmps107
      go_wp2_with fail
      have b := Blk.made w #[.func (.func 64) #[] #[], .int .i64 n, .int .i64 1099511627776] 93
      have kx : Kept w (w.alloc (.cells #[.func (.func 64) #[] #[], .int .i64 n, .int .i64 1099511627776] 93)) := (Kept.refl w).alloc _
      have hc' := (Below.cell kx (p := ⟨g, 2, none⟩) (World.block_lt_of_cell? w _ hc)).trans hc
      obtain ⟨W, hW⟩ : ∃ W, W = w.alloc (.cells #[.func (.func 64) #[] #[], .int .i64 n, .int .i64 1099511627776] 93) := ⟨_, rfl⟩
      rw [← hW] at b kx hc' ⊢
      have s0 := KW.cell (cell_of b 0 rfl)
      have s1 := KW.cell (cell_of b 1 rfl)
      have s2 := KW.cell (cell_of b 2 rfl)
      have s3 := KW.cell hc'
      have ca : ∀ p : KW W, Calls Tryz.prog 64 #[.pointer (some ⟨g, 0, none⟩)] p.v fun r w' => r = .returned (.pointer (some ⟨g, 2, none⟩)) ∧ Kept p.v w' := fun p => (sequence_any g p.v).mono fun _ _ ⟨h, k⟩ => ⟨h, k ▸ Kept.refl _⟩
      have CA := Lib.hid ca
      have KX := Lib.hid kx
      clear ca b hc hc' kx hW
      have nn : Nonempty (KW W) := ⟨⟨W, Kept.refl W⟩⟩
      have q1 : decide (n ≤ x) = true := by simp; omega
      clear h1
      have q2 : decide (x ≤ 1099511627776) = false := by simp; omega
      clear h2
      refine wp_region_kept (by kernel_rfl) (by kernel_rfl) ?_
      repeat (go_big_quiet_step ((go_at_call 64; with_reducible exact KW.calls _ (CA.out _))))
      refine wpQuiet_nil ?_
      intro w6 hw6
      have kk6 : Kept w w6 := by
        obtain ⟨p, rfl⟩ := hw6
        exact KX.out.trans p.h
      clear hw6 nn s0 s1 s2 s3
      go_wp2
      go_ret
      exact ⟨rfl, kk6⟩
  · have e : decide (n ≤ x ∧ x ≤ 1099511627776) = false := decide_eq_false fun h => h1 h.1
    rw [e]
    clear e
    go_enter Tryz.func107, Tryz.ntmps107
    go_wp2_with fail
    have b := Blk.made w #[.func (.func 64) #[] #[], .int .i64 n, .int .i64 1099511627776] 93
    have kx : Kept w (w.alloc (.cells #[.func (.func 64) #[] #[], .int .i64 n, .int .i64 1099511627776] 93)) := (Kept.refl w).alloc _
    have hc' := (Below.cell kx (p := ⟨g, 2, none⟩) (World.block_lt_of_cell? w _ hc)).trans hc
    obtain ⟨W, hW⟩ : ∃ W, W = w.alloc (.cells #[.func (.func 64) #[] #[], .int .i64 n, .int .i64 1099511627776] 93) := ⟨_, rfl⟩
    rw [← hW] at b kx hc' ⊢
    have s0 := KW.cell (cell_of b 0 rfl)
    have s1 := KW.cell (cell_of b 1 rfl)
    have s2 := KW.cell (cell_of b 2 rfl)
    have s3 := KW.cell hc'
    have ca : ∀ p : KW W, Calls Tryz.prog 64 #[.pointer (some ⟨g, 0, none⟩)] p.v fun r w' => r = .returned (.pointer (some ⟨g, 2, none⟩)) ∧ Kept p.v w' := fun p => (sequence_any g p.v).mono fun _ _ ⟨h, k⟩ => ⟨h, k ▸ Kept.refl _⟩
    have CA := Lib.hid ca
    have KX := Lib.hid kx
    clear ca b hc hc' kx hW
    have nn : Nonempty (KW W) := ⟨⟨W, Kept.refl W⟩⟩
    have q1 : decide (n ≤ x) = false := by simp; omega
    clear h1
    refine wp_region_kept (by kernel_rfl) (by kernel_rfl) ?_
    repeat (go_big_quiet_step ((go_at_call 64; with_reducible exact KW.calls _ (CA.out _))))
    refine wpQuiet_nil ?_
    intro w6 hw6
    have kk6 : Kept w w6 := by
      obtain ⟨p, rfl⟩ := hw6
      exact KX.out.trans p.h
    clear hw6 nn s0 s1 s2 s3
    go_wp2
    go_ret
    exact ⟨rfl, kk6⟩


set_option maxHeartbeats 400000 in
theorem sq_put (n : Int) (x : Int) (g : Nat) (w : World) (hc : w.cell? ⟨g, 2, none⟩ = some (.int .i64 x)) (h0 : 0 ≤ x) (h1 : x ≤ 1099511627776) (hT : Tab w) :
    Calls Tryz.prog 106 #[(sqv n), .pointer (some ⟨g, 0, none⟩)] w fun r w' => r = .returned (str (Vn.vput x.toNat)) ∧ Kept w w' := by
  unfold sqv
  have hlt := World.block_lt_of_cell? w _ hc
  have HT := Lib.hid hT
  clear hT
  go_enter Tryz.func106, Tryz.ntmps106
  go_wp2_with fail
  refine (sequence_any g _).mono ?_
  rintro r w1 ⟨rfl, rfl⟩
  have kx : Kept w (w.alloc (.cells #[.func (.func 64) #[] #[], .int .i64 n, .int .i64 1099511627776] 93)) := (Kept.refl w).alloc _
  have hc' := (Below.cell kx (p := ⟨g, 2, none⟩) hlt).trans hc
  clear hc
  obtain ⟨W, hW⟩ : ∃ W, W = w.alloc (.cells #[.func (.func 64) #[] #[], .int .i64 n, .int .i64 1099511627776] 93) := ⟨_, rfl⟩
  rw [← hW] at kx hc' ⊢
  have KX := Lib.hid kx
  clear kx hW
  go_wp2_with fail
  refine (put_any _ _ h0 (by omega) (HT.out.kept KX.out)).mono ?_
  rintro r w2 ⟨rfl, k2⟩
  have K2 := Lib.hid (KX.out.trans k2)
  clear k2
  obtain ⟨A, hA, _, _⟩ := name_put x.toNat
  have HA := Lib.hid hA
  rw [hA]
  clear hA
  go_wp2
  go_ret
  exact ⟨by rw [HA.out]; rfl, K2.out⟩

set_option maxHeartbeats 400000 in
theorem sq_drop (n : Int) (v0 : Value) (g : Nat) (w : World) (hc : w.cell? ⟨g, 2, none⟩ = some v0) (hf : w.frozen? ⟨g, 2, none⟩ = false) :
    Calls Tryz.prog 104 #[(sqv n), .pointer (some ⟨g, 0, none⟩)] w fun r w' => r = .returned (.tuple #[]) ∧ ∃ w1, Kept w w1 ∧ w' = w1.setCell ⟨g, 2, none⟩ (.int .i64 0) := by
  unfold sqv
  have hlt := World.block_lt_of_cell? w _ hc
  go_enter Tryz.func104, Tryz.ntmps104
  go_wp2_with fail
  refine (sequence_any g _).mono ?_
  rintro r w1 ⟨rfl, rfl⟩
  have kx : Kept w (w.alloc (.cells #[.func (.func 64) #[] #[], .int .i64 n, .int .i64 1099511627776] 93)) := (Kept.refl w).alloc _
  have hc' := (Below.cell kx (p := ⟨g, 2, none⟩) hlt).trans hc
  have hf' := (Below.frozen kx (p := ⟨g, 2, none⟩) hlt).trans hf
  clear hc hf
  obtain ⟨W, hW⟩ : ∃ W, W = w.alloc (.cells #[.func (.func 64) #[] #[], .int .i64 n, .int .i64 1099511627776] 93) := ⟨_, rfl⟩
  rw [← hW] at kx hc' hf' ⊢
  have KX := Lib.hid kx
  clear kx hW
  go_wp2
  go_end0
  exact ⟨rfl, W, KX.out, rfl⟩

set_option maxHeartbeats 400000 in
theorem sq_get (n : Int) (s : ByteArray) (a : Nat) (v0 : Value) (g : Nat) (w : World) (hs : s.size ≤ 65536) (ha : a ≤ 65536) (hT : Tab w) (hc : w.cell? ⟨g, 2, none⟩ = some v0) (hf : w.frozen? ⟨g, 2, none⟩ = false) :
    Calls Tryz.prog 105 #[(sqv n), .pointer (some ⟨g, 0, none⟩), .string s, .int .i64 a] w fun r w' => r = .returned (.tuple #[.int .i64 (vget s.data.toList a).2.1, .int .i64 (vget s.data.toList a).2.2]) ∧ ∃ w1, Kept w w1 ∧ w' = w1.setCell ⟨g, 2, none⟩ (.int .i64 (Ev.clip (vget s.data.toList a).1)) := by
  unfold sqv
  have hlt := World.block_lt_of_cell? w _ hc
  have HT := Lib.hid hT
  clear hT
  go_enter Tryz.func105, Tryz.ntmps105
  have hg := (vget_le s.data.toList a).1
  obtain ⟨⟨n', t, er⟩, hv⟩ : ∃ x, x = vget s.data.toList a := ⟨_, rfl⟩
  rw [← hv] at hg ⊢
  simp only at hg ⊢
  have hm : (min (n' : Int) 1099511627777) = ((Ev.clip n' : Nat) : Int) := by unfold Ev.clip; omega
  have hm2 : Ev.clip n' ≤ 1099511627777 := by unfold Ev.clip; omega
  have Hm := Lib.hid hm
  have Hv := Lib.hid hv
  clear hm hv
  go_wp2_with fail
  have kx : Kept w (w.alloc (.cells #[.func (.func 64) #[] #[], .int .i64 n, .int .i64 1099511627776] 93)) := (Kept.refl w).alloc _
  have bx := Blk.made w #[.func (.func 64) #[] #[], .int .i64 n, .int .i64 1099511627776] 93
  have hc' := (Below.cell kx (p := ⟨g, 2, none⟩) hlt).trans hc
  have hf' := (Below.frozen kx (p := ⟨g, 2, none⟩) hlt).trans hf
  obtain ⟨W, hW⟩ : ∃ W, W = w.alloc (.cells #[.func (.func 64) #[] #[], .int .i64 n, .int .i64 1099511627776] 93) := ⟨_, rfl⟩
  rw [← hW] at kx bx hc' hf' ⊢
  have KX := Lib.hid kx
  have hltW := World.block_lt_of_cell? W _ hc'
  clear kx hW hc hf
  refine (get_any s a _ (by unfold maxLen; omega) (by omega) (by omega) (HT.out.kept KX.out)).mono ?_
  rintro r w2 ⟨rfl, k2⟩
  rw [← Hv.out]
  unfold tup
  simp only
  have d0 := cell_of (bx.kept k2) 0 rfl
  have c2 := (Below.cell k2 (p := ⟨g, 2, none⟩) hltW).trans hc'
  have f2 := (Below.frozen k2 (p := ⟨g, 2, none⟩) hltW).trans hf'
  have K2 := Lib.hid (KX.out.trans k2)
  clear k2 hc' hf' bx
  go_wp2_with fail
  refine (sequence_any g _).mono ?_
  rintro r w3 ⟨rfl, rfl⟩
  go_wp2
  go_ret2
  exact ⟨rfl, w3, K2.out, by rw [Hm.out]⟩


set_option maxHeartbeats 400000 in
theorem cr_right (x : Int) (g : Nat) (w : World) (hc : w.cell? ⟨g, 3, none⟩ = some (.int .i64 x)) :
    Calls Tryz.prog 107 #[crv, .pointer (some ⟨g, 0, none⟩)] w fun r w' => r = .returned (.bool (decide (0 ≤ x ∧ x ≤ 64))) ∧ Kept w w' := by
  unfold crv
  by_cases h1 : 0 ≤ x
  · by_cases h2 : x ≤ 64
    · have e : decide (0 ≤ x ∧ x ≤ 64) = true := decide_eq_true ⟨h1, h2⟩
      rw [e]
      clear e
      go_enter Tryz.func107, Tryz.ntmps107
      go_wp2_with fail
      have b := Blk.made w #[.func (.func 62) #[] #[], .int .i64 0, .int .i64 64] 93
      have kx : Kept w (w.alloc (.cells #[.func (.func 62) #[] #[], .int .i64 0, .int .i64 64] 93)) := (Kept.refl w).alloc _
      have hc' := (Below.cell kx (p := ⟨g, 3, none⟩) (World.block_lt_of_cell? w _ hc)).trans hc
      obtain ⟨W, hW⟩ : ∃ W, W = w.alloc (.cells #[.func (.func 62) #[] #[], .int .i64 0, .int .i64 64] 93) := ⟨_, rfl⟩
      rw [← hW] at b kx hc' ⊢
      have s0 := KW.cell (cell_of b 0 rfl)
      have s1 := KW.cell (cell_of b 1 rfl)
      have s2 := KW.cell (cell_of b 2 rfl)
      have s3 := KW.cell hc'
      have ca : ∀ p : KW W, Calls Tryz.prog 62 #[.pointer (some ⟨g, 0, none⟩)] p.v fun r w' => r = .returned (.pointer (some ⟨g, 3, none⟩)) ∧ Kept p.v w' := fun p => (credit_any g p.v).mono fun _ _ ⟨h, k⟩ => ⟨h, k ▸ Kept.refl _⟩
      have CA := Lib.hid ca
      have KX := Lib.hid kx
      clear ca b hc hc' kx hW
      have nn : Nonempty (KW W) := ⟨⟨W, Kept.refl W⟩⟩
      have q1 : decide (0 ≤ x) = true := by simp; omega
      clear h1
      have q2 : decide (x ≤ 64) = true := by simp; omega
      clear h2
      refine wp_region_kept (by kernel_rfl) (by kernel_rfl) ?_
      repeat (go_big_quiet_step ((go_at_call 62; with_reducible exact KW.calls _ (CA.out _))))
      refine wpQuiet_nil ?_
      intro w6 hw6
      have kk6 : Kept w w6 := by
        obtain ⟨p, rfl⟩ := hw6
        exact KX.out.trans p.h
      clear hw6 nn s0 s1 s2 s3
      go_wp2
      go_ret
      exact ⟨rfl, kk6⟩
    · have e : decide (0 ≤ x ∧ x ≤ 64) = false := decide_eq_false fun h => h2 h.2
      rw [e]
      clear e
      go_enter Tryz.func107, Tryz.ntmps107
      go_wp2_with fail
      have b := Blk.made w #[.func (.func 62) #[] #[], .int .i64 0, .int .i64 64] 93
      have kx : Kept w (w.alloc (.cells #[.func (.func 62) #[] #[], .int .i64 0, .int .i64 64] 93)) := (Kept.refl w).alloc _
      have hc' := (Below.cell kx (p := ⟨g, 3, none⟩) (World.block_lt_of_cell? w _ hc)).trans hc
      obtain ⟨W, hW⟩ : ∃ W, W = w.alloc (.cells #[.func (.func 62) #[] #[], .int .i64 0, .int .i64 64] 93) := ⟨_, rfl⟩
      rw [← hW] at b kx hc' ⊢
      have s0 := KW.cell (cell_of b 0 rfl)
      have s1 := KW.cell (cell_of b 1 rfl)
      have s2 := KW.cell (cell_of b 2 rfl)
      have s3 := KW.cell hc'
      have ca : ∀ p : KW W, Calls Tryz.prog 62 #[.pointer (some ⟨g, 0, none⟩)] p.v fun r w' => r = .returned (.pointer (some ⟨g, 3, none⟩)) ∧ Kept p.v w' := fun p => (credit_any g p.v).mono fun _ _ ⟨h, k⟩ => ⟨h, k ▸ Kept.refl _⟩
      have CA := Lib.hid ca
      have KX := Lib.hid kx
      clear ca b hc hc' kx hW
      have nn : Nonempty (KW W) := ⟨⟨W, Kept.refl W⟩⟩
      have q1 : decide (0 ≤ x) = true := by simp; omega
      clear h1
      have q2 : decide (x ≤ 64) = false := by simp; omega
      clear h2
      refine wp_region_kept (by kernel_rfl) (by kernel_rfl) ?_
      repeat (go_big_quiet_step ((go_at_call 62; with_reducible exact KW.calls _ (CA.out _))))
      refine wpQuiet_nil ?_
      intro w6 hw6
      have kk6 : Kept w w6 := by
        obtain ⟨p, rfl⟩ := hw6
        exact KX.out.trans p.h
      clear hw6 nn s0 s1 s2 s3
      go_wp2
      go_ret
      exact ⟨rfl, kk6⟩
  · have e : decide (0 ≤ x ∧ x ≤ 64) = false := decide_eq_false fun h => h1 h.1
    rw [e]
    clear e
    go_enter Tryz.func107, Tryz.ntmps107
    go_wp2_with fail
    have b := Blk.made w #[.func (.func 62) #[] #[], .int .i64 0, .int .i64 64] 93
    have kx : Kept w (w.alloc (.cells #[.func (.func 62) #[] #[], .int .i64 0, .int .i64 64] 93)) := (Kept.refl w).alloc _
    have hc' := (Below.cell kx (p := ⟨g, 3, none⟩) (World.block_lt_of_cell? w _ hc)).trans hc
    obtain ⟨W, hW⟩ : ∃ W, W = w.alloc (.cells #[.func (.func 62) #[] #[], .int .i64 0, .int .i64 64] 93) := ⟨_, rfl⟩
    rw [← hW] at b kx hc' ⊢
    have s0 := KW.cell (cell_of b 0 rfl)
    have s1 := KW.cell (cell_of b 1 rfl)
    have s2 := KW.cell (cell_of b 2 rfl)
    have s3 := KW.cell hc'
    have ca : ∀ p : KW W, Calls Tryz.prog 62 #[.pointer (some ⟨g, 0, none⟩)] p.v fun r w' => r = .returned (.pointer (some ⟨g, 3, none⟩)) ∧ Kept p.v w' := fun p => (credit_any g p.v).mono fun _ _ ⟨h, k⟩ => ⟨h, k ▸ Kept.refl _⟩
    have CA := Lib.hid ca
    have KX := Lib.hid kx
    clear ca b hc hc' kx hW
    have nn : Nonempty (KW W) := ⟨⟨W, Kept.refl W⟩⟩
    have q1 : decide (0 ≤ x) = false := by simp; omega
    clear h1
    refine wp_region_kept (by kernel_rfl) (by kernel_rfl) ?_
    repeat (go_big_quiet_step ((go_at_call 62; with_reducible exact KW.calls _ (CA.out _))))
    refine wpQuiet_nil ?_
    intro w6 hw6
    have kk6 : Kept w w6 := by
      obtain ⟨p, rfl⟩ := hw6
      exact KX.out.trans p.h
    clear hw6 nn s0 s1 s2 s3
    go_wp2
    go_ret
    exact ⟨rfl, kk6⟩


set_option maxHeartbeats 400000 in
theorem cr_put (x : Int) (g : Nat) (w : World) (hc : w.cell? ⟨g, 3, none⟩ = some (.int .i64 x)) (h0 : 0 ≤ x) (h1 : x ≤ 1099511627776) (hT : Tab w) :
    Calls Tryz.prog 106 #[crv, .pointer (some ⟨g, 0, none⟩)] w fun r w' => r = .returned (str (Vn.vput x.toNat)) ∧ Kept w w' := by
  unfold crv
  have hlt := World.block_lt_of_cell? w _ hc
  have HT := Lib.hid hT
  clear hT
  go_enter Tryz.func106, Tryz.ntmps106
  go_wp2_with fail
  refine (credit_any g _).mono ?_
  rintro r w1 ⟨rfl, rfl⟩
  have kx : Kept w (w.alloc (.cells #[.func (.func 62) #[] #[], .int .i64 0, .int .i64 64] 93)) := (Kept.refl w).alloc _
  have hc' := (Below.cell kx (p := ⟨g, 3, none⟩) hlt).trans hc
  clear hc
  obtain ⟨W, hW⟩ : ∃ W, W = w.alloc (.cells #[.func (.func 62) #[] #[], .int .i64 0, .int .i64 64] 93) := ⟨_, rfl⟩
  rw [← hW] at kx hc' ⊢
  have KX := Lib.hid kx
  clear kx hW
  go_wp2_with fail
  refine (put_any _ _ h0 (by omega) (HT.out.kept KX.out)).mono ?_
  rintro r w2 ⟨rfl, k2⟩
  have K2 := Lib.hid (KX.out.trans k2)
  clear k2
  obtain ⟨A, hA, _, _⟩ := name_put x.toNat
  have HA := Lib.hid hA
  rw [hA]
  clear hA
  go_wp2
  go_ret
  exact ⟨by rw [HA.out]; rfl, K2.out⟩

set_option maxHeartbeats 400000 in
theorem cr_drop (v0 : Value) (g : Nat) (w : World) (hc : w.cell? ⟨g, 3, none⟩ = some v0) (hf : w.frozen? ⟨g, 3, none⟩ = false) :
    Calls Tryz.prog 104 #[crv, .pointer (some ⟨g, 0, none⟩)] w fun r w' => r = .returned (.tuple #[]) ∧ ∃ w1, Kept w w1 ∧ w' = w1.setCell ⟨g, 3, none⟩ (.int .i64 0) := by
  unfold crv
  have hlt := World.block_lt_of_cell? w _ hc
  go_enter Tryz.func104, Tryz.ntmps104
  go_wp2_with fail
  refine (credit_any g _).mono ?_
  rintro r w1 ⟨rfl, rfl⟩
  have kx : Kept w (w.alloc (.cells #[.func (.func 62) #[] #[], .int .i64 0, .int .i64 64] 93)) := (Kept.refl w).alloc _
  have hc' := (Below.cell kx (p := ⟨g, 3, none⟩) hlt).trans hc
  have hf' := (Below.frozen kx (p := ⟨g, 3, none⟩) hlt).trans hf
  clear hc hf
  obtain ⟨W, hW⟩ : ∃ W, W = w.alloc (.cells #[.func (.func 62) #[] #[], .int .i64 0, .int .i64 64] 93) := ⟨_, rfl⟩
  rw [← hW] at kx hc' hf' ⊢
  have KX := Lib.hid kx
  clear kx hW
  go_wp2
  go_end0
  exact ⟨rfl, W, KX.out, rfl⟩

set_option maxHeartbeats 400000 in
theorem cr_get (s : ByteArray) (a : Nat) (v0 : Value) (g : Nat) (w : World) (hs : s.size ≤ 65536) (ha : a ≤ 65536) (hT : Tab w) (hc : w.cell? ⟨g, 3, none⟩ = some v0) (hf : w.frozen? ⟨g, 3, none⟩ = false) :
    Calls Tryz.prog 105 #[crv, .pointer (some ⟨g, 0, none⟩), .string s, .int .i64 a] w fun r w' => r = .returned (.tuple #[.int .i64 (vget s.data.toList a).2.1, .int .i64 (vget s.data.toList a).2.2]) ∧ ∃ w1, Kept w w1 ∧ w' = w1.setCell ⟨g, 3, none⟩ (.int .i64 (Ev.clip (vget s.data.toList a).1)) := by
  unfold crv
  have hlt := World.block_lt_of_cell? w _ hc
  have HT := Lib.hid hT
  clear hT
  go_enter Tryz.func105, Tryz.ntmps105
  have hg := (vget_le s.data.toList a).1
  obtain ⟨⟨n', t, er⟩, hv⟩ : ∃ x, x = vget s.data.toList a := ⟨_, rfl⟩
  rw [← hv] at hg ⊢
  simp only at hg ⊢
  have hm : (min (n' : Int) 1099511627777) = ((Ev.clip n' : Nat) : Int) := by unfold Ev.clip; omega
  have hm2 : Ev.clip n' ≤ 1099511627777 := by unfold Ev.clip; omega
  have Hm := Lib.hid hm
  have Hv := Lib.hid hv
  clear hm hv
  go_wp2_with fail
  have kx : Kept w (w.alloc (.cells #[.func (.func 62) #[] #[], .int .i64 0, .int .i64 64] 93)) := (Kept.refl w).alloc _
  have bx := Blk.made w #[.func (.func 62) #[] #[], .int .i64 0, .int .i64 64] 93
  have hc' := (Below.cell kx (p := ⟨g, 3, none⟩) hlt).trans hc
  have hf' := (Below.frozen kx (p := ⟨g, 3, none⟩) hlt).trans hf
  obtain ⟨W, hW⟩ : ∃ W, W = w.alloc (.cells #[.func (.func 62) #[] #[], .int .i64 0, .int .i64 64] 93) := ⟨_, rfl⟩
  rw [← hW] at kx bx hc' hf' ⊢
  have KX := Lib.hid kx
  have hltW := World.block_lt_of_cell? W _ hc'
  clear kx hW hc hf
  refine (get_any s a _ (by unfold maxLen; omega) (by omega) (by omega) (HT.out.kept KX.out)).mono ?_
  rintro r w2 ⟨rfl, k2⟩
  rw [← Hv.out]
  unfold tup
  simp only
  have d0 := cell_of (bx.kept k2) 0 rfl
  have c2 := (Below.cell k2 (p := ⟨g, 3, none⟩) hltW).trans hc'
  have f2 := (Below.frozen k2 (p := ⟨g, 3, none⟩) hltW).trans hf'
  have K2 := Lib.hid (KX.out.trans k2)
  clear k2 hc' hf' bx
  go_wp2_with fail
  refine (credit_any g _).mono ?_
  rintro r w3 ⟨rfl, rfl⟩
  go_wp2
  go_ret2
  exact ⟨rfl, w3, K2.out, by rw [Hm.out]⟩

end Go.Proofs.YtlfmpoinjbmjoaaGreatDoor
