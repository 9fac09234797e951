/-
  The law's fixed calls. Written by wip/mkdfix.py.
-/
import Derived.Test.YtedenkgjdmcafaaDplay
namespace Go.Proofs.Ytedenkgjdmcafaa
open Go.ChangeShapes Go.WideShapes Go.ChangeAt Go.RowKit

theorem Dsk.but {S : Nat → Prop} {w w' : World} {base b : Nat} {K : Dk.Fl} {v : Value} {ws : List Dk.W} (h : Dsk w base b K v ws) (k : But S w w') (h1 : ¬ S b) (h2 : ∀ i, v.ownBlock = some i → ¬ S i) : Dsk w' base b K v ws :=
  ⟨k.at h.blk h1, h.low, h.row.but k h2, h.few, h.ok, h.fits⟩
/-- one disk is as it was when another one turned -/
theorem Dsk.over {w w' : World} {base b base' b' : Nat} {K K' : Dk.Fl} {v v' : Value} {ws ws' : List Dk.W} (h : Dsk w base b K v ws) (o : Dsk w base' b' K' v' ws') (hb : b ≠ b') (ha : RApart v v') (k : But (fun i => i = b' ∨ v'.ownBlock = some i) w w') : Dsk w' base b K v ws := by
  refine h.but k ?_ ?_
  · rintro (e | e)
    · exact hb e
    · obtain ⟨_, cur, hg⟩ := o.row.blk e
      have := h.blk
      rw [hg] at this
      cases this
  · rintro i e (rfl | e')
    · obtain ⟨_, cur, hg⟩ := h.row.blk e
      have := o.blk
      rw [hg] at this
      cases this
    · exact ha i e e'
/-- all that was there ahead of a disk is as it was -/
theorem Dsk.still {W w w' : World} {base b : Nat} {K : Dk.Fl} {v : Value} {ws : List Dk.W} (h : Dsk w base b K v ws) (hb : W.heap.size ≤ base) (k : Kept W w) (f : But (fun i => i = b ∨ v.ownBlock = some i) w w') : Kept W w' :=
  But.after k f fun i hi e => by
    rcases e with rfl | e
    · have := h.low; omega
    · have := (h.row.blk e).1; omega

theorem read_is {b base : Nat} {K : Dk.Fl} {v : Value} {ws : List Dk.W} (f : Int) (t : ByteArray) (w : World) (h : Dsk w base b K v ws) (ht : (if 0 ≤ f ∧ f < 4 then Dk.after K ws (Dk.total ws) f.toNat else ⟨#[]⟩) = t) :
    Calls Try.prog 18 #[.pointer (some ⟨b, 0, none⟩), .int .i64 f] w fun e w' => e = .returned (.string t) ∧ Kept w w' := ht ▸ read_disk f w h
theorem kept_is {b base : Nat} {K : Dk.Fl} {v : Value} {ws : List Dk.W} (f : Int) (t : ByteArray) (w : World) (h : Dsk w base b K v ws) (ht : (if 0 ≤ f ∧ f < 4 then K f.toNat else ⟨#[]⟩) = t) :
    Calls Try.prog 20 #[.pointer (some ⟨b, 0, none⟩), .int .i64 f] w fun e w' => e = .returned (.string t) ∧ Kept w w' := ht ▸ kept_disk f w h
theorem units_is {b base : Nat} {K : Dk.Fl} {v : Value} {ws : List Dk.W} (n : Int) (w : World) (h : Dsk w base b K v ws) (ht : (Dk.total ws : Int) = n) :
    Calls Try.prog 16 #[.pointer (some ⟨b, 0, none⟩)] w fun e w' => e = .returned (.int .i64 n) ∧ Kept w w' := ht ▸ units_disk w h
theorem crash_is {b base : Nat} {K K' : Dk.Fl} {v : Value} {ws : List Dk.W} (u n : Int) (w : World) (h : Dsk w base b K v ws) (u0 : -9223372036854775808 ≤ u) (u1 : u ≤ 9223372036854775807) (hn : ((min u.toNat (Dk.total ws) : Nat) : Int) = n) (hk : Dk.after K ws u.toNat = K') :
    Calls Try.prog 23 #[.pointer (some ⟨b, 0, none⟩), .int .i64 u] w fun e w' => e = .returned (.int .i64 n) ∧ Dsk w' base b K' (.slice none 0 0) [] ∧ But (fun i => i = b ∨ v.ownBlock = some i) w w' := by
  subst hn hk
  exact (crash_disk u w u0 u1 h).mono fun e w' ⟨h1, h2, h3⟩ => ⟨h1, h2, h3.mono fun _ _ h => .inl h⟩
theorem sync_is {b base : Nat} {K K' : Dk.Fl} {v : Value} {ws : List Dk.W} (w : World) (h : Dsk w base b K v ws) (hk : Dk.after K ws (Dk.total ws) = K') :
    Calls Try.prog 13 #[.pointer (some ⟨b, 0, none⟩)] w fun e w' => e = .returned (.tuple #[]) ∧ Dsk w' base b K' (.slice none 0 0) [] ∧ But (fun i => i = b ∨ v.ownBlock = some i) w w' := by
  subst hk
  exact (sync_disk w h).mono fun e w' ⟨h1, h2, h3⟩ => ⟨h1, h2, h3.mono fun _ _ h => .inl h⟩
/-- a write was done: the disk behind it -/
def Wrote (w w' : World) (base b : Nat) (K : Dk.Fl) (v : Value) (ws : List Dk.W) : Prop := ∃ v', Dsk w' base b K v' ws ∧ RWent w v v' ∧ But (fun i => i = b ∨ v.ownBlock = some i) w w'
theorem append_is {b base : Nat} {K : Dk.Fl} {v : Value} {ws : List Dk.W} (f : Int) (s : ByteArray) (a : Int) (ws' : List Dk.W) (w : World) (h : Dsk w base b K v ws) (hl : ws.length < 1000000) (hs : s.size ≤ 281474976710656) (ha : Dk.ansA (Dk.after K ws (Dk.total ws)) f s = a)
    (hw : (if a = 0 then Dk.more ws ⟨f.toNat, s, false⟩ else ws) = ws') :
    Calls Try.prog 12 #[.pointer (some ⟨b, 0, none⟩), .int .i64 f, .string s] w fun e w' => e = .returned (.int .i64 a) ∧ Wrote w w' base b K v ws' := by
  subst ha hw
  unfold Dk.ansA
  by_cases hf : 0 ≤ f ∧ f < 4
  · obtain ⟨k, rfl⟩ : ∃ k : Nat, f = (k : Int) := ⟨f.toNat, by omega⟩
    have hk : k < 4 := by omega
    simp only [if_pos hf, Int.toNat_natCast]
    by_cases hz : (Dk.after K ws (Dk.total ws) k).size + s.size ≤ 65536
    · simp only [if_pos hz]
      exact app_ok k s _ h hk hz hl
    · simp only [if_neg hz]
      exact (app_big k s _ h hk hs (by omega)).mono fun e w' ⟨h1, h2⟩ => ⟨h1, v, h.kept h2, .inl rfl, h2.but⟩
  · simp only [if_neg hf]
    exact (app_bad b f s _ hf).mono fun e w' ⟨h1, h2⟩ => ⟨h1, v, h.kept h2, .inl rfl, h2.but⟩
theorem replace_is {b base : Nat} {K : Dk.Fl} {v : Value} {ws : List Dk.W} (f : Int) (s : ByteArray) (a : Int) (ws' : List Dk.W) (w : World) (h : Dsk w base b K v ws) (hl : ws.length < 1000000) (hs : s.size ≤ maxLen) (ha : Dk.ansR f s = a)
    (hw : (if a = 0 then Dk.more ws ⟨f.toNat, s, true⟩ else ws) = ws') :
    Calls Try.prog 24 #[.pointer (some ⟨b, 0, none⟩), .int .i64 f, .string s] w fun e w' => e = .returned (.int .i64 a) ∧ Wrote w w' base b K v ws' := by
  subst ha hw
  unfold Dk.ansR
  by_cases hf : 0 ≤ f ∧ f < 4
  · obtain ⟨k, rfl⟩ : ∃ k : Nat, f = (k : Int) := ⟨f.toNat, by omega⟩
    have hk : k < 4 := by omega
    simp only [if_pos hf, Int.toNat_natCast]
    by_cases hz : s.size ≤ 65536
    · simp only [if_pos hz]
      exact rep_ok k s _ h hk hz hl
    · simp only [if_neg hz]
      exact (rep_big b k s _ hk (by omega) hs).mono fun e w' ⟨h1, h2⟩ => ⟨h1, v, h.kept h2, .inl rfl, h2.but⟩
  · simp only [if_neg hf]
    exact (rep_bad b f s _ hf).mono fun e w' ⟨h1, h2⟩ => ⟨h1, v, h.kept h2, .inl rfl, h2.but⟩

/-- the files of a new disk -/
def dk0 : Dk.Fl := fun _ => ⟨#[]⟩
def dw1 : List Dk.W := [⟨0, ⟨#[97, 98, 99]⟩, false⟩]
def dw2 : List Dk.W := [⟨0, ⟨#[97, 98, 99]⟩, false⟩, ⟨1, ⟨#[113]⟩, true⟩]
def dk1 : Dk.Fl := Dk.after dk0 dw2 2
def dw3 : List Dk.W := [⟨0, ⟨#[122]⟩, false⟩]
def dk2 : Dk.Fl := Dk.after dk1 dw3 1
def dk3 : Dk.Fl := Dk.after dk0 dw2 99

set_option maxHeartbeats 2000000 in
set_option maxRecDepth 100000 in
theorem fix_any (w : World) : Calls Try.prog 22 #[] w fun e w' => e = .returned (.bool true) ∧ Kept w w' := by
  go_enter Try.func22, Try.ntmps22
  go_wp2_with fail
  refine (new_disk _).mono ?_
  rintro e w1 ⟨rfl, x1, k1⟩
  obtain ⟨base, hbase⟩ : ∃ base, base = w.heap.size := ⟨_, rfl⟩
  rw [← hbase] at x1 ⊢
  obtain ⟨b, hb⟩ : ∃ b, b = base := ⟨_, rfl⟩
  have x1 : Dsk w1 base b dk0 (.slice none 0 0) [] := by rw [hb]; exact x1
  rw [show (Value.pointer (some ⟨base, 0, none⟩)) = .pointer (some ⟨b, 0, none⟩) by rw [hb]]
  have HB : Hid (w.heap.size ≤ base) := by show _ ≤ _; omega
  have X1 := Lib.hid x1
  have K1 := Lib.hid k1
  clear x1 k1 hb hbase
  go_wp2_with fail
  refine (append_is 0 ⟨#[97, 98, 99]⟩ 0 dw1 _ X1.out (by decide) (by decide) rfl rfl).mono ?_
  rintro e w2 ⟨rfl, v2, x, _, f⟩
  have X2 := Lib.hid x
  have K2 := Lib.hid (X1.out.still HB.out K1.out f)
  clear x f X1 K1

  go_wp2_with fail
  refine (append_is 4 ⟨#[120]⟩ 1 dw1 _ X2.out (by decide) (by decide) rfl rfl).mono ?_
  rintro e w3 ⟨rfl, v3, x, _, f⟩
  have X3 := Lib.hid x
  have K3 := Lib.hid (X2.out.still HB.out K2.out f)
  clear x f X2 K2

  go_wp2_with fail
  refine (replace_is (-1) ⟨#[120]⟩ 1 dw1 _ X3.out (by decide) (by decide) rfl rfl).mono ?_
  rintro e w4 ⟨rfl, v4, x, _, f⟩
  have X4 := Lib.hid x
  have K4 := Lib.hid (X3.out.still HB.out K3.out f)
  clear x f X3 K3

  go_wp2_with fail
  refine (replace_is 1 ⟨#[113]⟩ 0 dw2 _ X4.out (by decide) (by decide) rfl rfl).mono ?_
  rintro e w5 ⟨rfl, v5, x, _, f⟩
  have X5 := Lib.hid x
  have K5 := Lib.hid (X4.out.still HB.out K4.out f)
  clear x f X4 K4

  go_wp2_with fail
  refine (units_is 4 _ X5.out rfl).mono ?_
  rintro e w6 ⟨rfl, k⟩
  have X6 := Lib.hid (X5.out.kept k)
  have K6 := Lib.hid (K5.out.trans k)
  clear k X5 K5

  go_wp2_with fail
  refine (read_is 0 ⟨#[97, 98, 99]⟩ _ X6.out rfl).mono ?_
  rintro e w7 ⟨rfl, k⟩
  have X7 := Lib.hid (X6.out.kept k)
  have K7 := Lib.hid (K6.out.trans k)
  clear k X6 K6

  go_wp2_with fail
  refine (kept_is 0 ⟨#[]⟩ _ X7.out rfl).mono ?_
  rintro e w8 ⟨rfl, k⟩
  have X8 := Lib.hid (X7.out.kept k)
  have K8 := Lib.hid (K7.out.trans k)
  clear k X7 K7

  go_wp2_with fail
  refine (copy_disk _ X8.out).mono ?_
  rintro e w9 ⟨bo, vo, rfl, y, k⟩
  have hne : b ≠ bo := by have := y.low; have := heap_lt X8.out.blk; omega
  have HNE := Lib.hid hne
  have X9 := Lib.hid (X8.out.kept k)
  have K9 := Lib.hid (K8.out.trans k)
  have AP9 : Hid (RApart v5 vo) := fun i h1 h2 => by
    obtain ⟨_, cur, hg⟩ := X8.out.row.blk h1
    have := heap_lt hg
    have := (y.row.blk h2).1
    omega
  have O9 := Lib.hid (y.mono (base' := base) (by have := X8.out.low; have := heap_lt X8.out.blk; omega))
  clear k y hne X8 K8

  go_wp2_with fail
  refine (crash_is (K' := dk1) 2 2 _ X9.out (by decide) (by decide) rfl rfl).mono ?_
  rintro e w10 ⟨rfl, x, f⟩
  have X10 := Lib.hid x
  have K10 := Lib.hid (X9.out.still HB.out K9.out f)
  have O10 := Lib.hid (O9.out.over X9.out HNE.out.symm (AP9.out.symm) f)
  have AP10 : Hid (RApart (.slice none 0 0) vo) := rapart_nil _
  clear x f X9 K9 O9 AP9

  go_wp2_with fail
  refine (append_is 0 ⟨#[122]⟩ 0 dw3 _ X10.out (by decide) (by decide) rfl rfl).mono ?_
  rintro e w11 ⟨rfl, v11, x, g, f⟩
  have X11 := Lib.hid x
  have K11 := Lib.hid (X10.out.still HB.out K10.out f)
  have O11 := Lib.hid (O10.out.over X10.out HNE.out.symm (AP10.out.symm) f)
  have AP11 : Hid (RApart v11 vo) := AP10.out.went g O10.out.row
  clear x f g X10 K10 O10 AP10

  go_wp2_with fail
  refine (sync_is (K' := dk2) _ X11.out rfl).mono ?_
  rintro e w12 ⟨rfl, x, f⟩
  have X12 := Lib.hid x
  have K12 := Lib.hid (X11.out.still HB.out K11.out f)
  have O12 := Lib.hid (O11.out.over X11.out HNE.out.symm (AP11.out.symm) f)
  have AP12 : Hid (RApart (.slice none 0 0) vo) := rapart_nil _
  clear x f X11 K11 O11 AP11

  go_wp2_with fail
  refine (read_is 0 ⟨#[97, 98, 122]⟩ _ X12.out rfl).mono ?_
  rintro e w13 ⟨rfl, k⟩
  have X13 := Lib.hid (X12.out.kept k)
  have K13 := Lib.hid (K12.out.trans k)
  have O13 := Lib.hid (O12.out.kept k)
  clear k X12 K12 O12

  go_wp2_with fail
  refine (kept_is 0 ⟨#[97, 98, 122]⟩ _ X13.out rfl).mono ?_
  rintro e w14 ⟨rfl, k⟩
  have X14 := Lib.hid (X13.out.kept k)
  have K14 := Lib.hid (K13.out.trans k)
  have O14 := Lib.hid (O13.out.kept k)
  clear k X13 K13 O13

  go_wp2_with fail
  refine (read_is 1 ⟨#[]⟩ _ X14.out rfl).mono ?_
  rintro e w15 ⟨rfl, k⟩
  have X15 := Lib.hid (X14.out.kept k)
  have K15 := Lib.hid (K14.out.trans k)
  have O15 := Lib.hid (O14.out.kept k)
  clear k X14 K14 O14

  go_wp2_with fail
  refine (units_is 0 _ X15.out rfl).mono ?_
  rintro e w16 ⟨rfl, k⟩
  have X16 := Lib.hid (X15.out.kept k)
  have K16 := Lib.hid (K15.out.trans k)
  have O16 := Lib.hid (O15.out.kept k)
  clear k X15 K15 O15

  go_wp2_with fail
  refine (crash_is (K' := dk3) 99 4 _ O16.out (by decide) (by decide) rfl rfl).mono ?_
  rintro e w17 ⟨rfl, x, f⟩
  have O17 := Lib.hid x
  have K17 := Lib.hid (O16.out.still HB.out K16.out f)
  clear x f O16 K16

  go_wp2_with fail
  refine (kept_is 1 ⟨#[113]⟩ _ O17.out rfl).mono ?_
  rintro e w18 ⟨rfl, k⟩
  have O18 := Lib.hid (O17.out.kept k)
  have K18 := Lib.hid (K17.out.trans k)
  clear k O17 K17

  go_wp2_with fail
  refine (read_is 7 ⟨#[]⟩ _ O18.out rfl).mono ?_
  rintro e w19 ⟨rfl, k⟩
  have O19 := Lib.hid (O18.out.kept k)
  have K19 := Lib.hid (K18.out.trans k)
  clear k O18 K18

  go_wp2
  go_ret
  exact ⟨rfl, K19.out⟩
end Go.Proofs.Ytedenkgjdmcafaa
