/-
  The law's fixed calls. Written by wip/mkdfix.py.
-/
import Derived.Test.YtenhncohhikllaaDoorDcore3
namespace Go.Proofs.YtenhncohhikllaaDoor
open Go.ChangeShapes Go.WideShapes Go.ChangeAt Go.RowKit

namespace Dk
/-- the first 60 bytes -/
def cut (s : ByteArray) : ByteArray := s.extract 0 (min s.size 60)
theorem cut_size (s : ByteArray) : (cut s).size ≤ 60 := by unfold cut; rw [ByteArray.size_extract]; omega
/-- one write more, if it has units -/
def more (ws : List W) (x : W) : List W := if units x = 0 then ws else ws ++ [x]
/-- what an Append, a Replace is answered -/
def ansA (N : Fl) (f : Int) (s : ByteArray) : Int := if 0 ≤ f ∧ f < 4 then (if (N f.toNat).size + s.size ≤ 65536 then 0 else 2) else 1
def ansR (f : Int) (s : ByteArray) : Int := if 0 ≤ f ∧ f < 4 then (if s.size ≤ 65536 then 0 else 2) else 1
/-- a call: what is kept behind it, the writes, the answer; add: how a write is added -/
def step (add : List W → W → List W) (K : Fl) (ws : List W) (kd f : Int) (s : ByteArray) (n : Int) : Fl × List W × Int :=
  if kd = 0 then (K, (if ansA (after K ws (total ws)) f s = 0 then add ws ⟨f.toNat, s, false⟩ else ws), ansA (after K ws (total ws)) f s)
  else if kd = 1 then (K, (if ansR f s = 0 then add ws ⟨f.toNat, s, true⟩ else ws), ansR f s)
  else if kd = 2 then (after K ws (total ws), [], 0)
  else if kd = 3 then (after K ws n.toNat, [], (min n.toNat (total ws) : Nat))
  else (K, ws, 0)
theorem more_len (ws : List W) (x : W) : (more ws x).length ≤ ws.length + 1 := by unfold more; split <;> simp
theorem more_clean (ws : List W) (x : W) : more (clean ws) x = clean (ws ++ [x]) := by rw [clean_snoc]; rfl
end Dk

/-- behind a call of a script -/
def Played (w w' : World) (base b : Nat) (v : Value) (r : Dk.Fl × List Dk.W × Int) (n : Nat) : Prop :=
  ∃ v', Dsk w' base b r.1 v' r.2.1 ∧ r.2.1.length ≤ n ∧ RWent w v v' ∧ But (fun i => i = b ∨ v.ownBlock = some i) w w'
theorem Did.played {w w1 w' : World} {base b : Nat} {K : Dk.Fl} {v : Value} {ws : List Dk.W} {x : Dk.W} {a : Int} (k : Kept w w1) (h : Did w1 w' base b K v ws x) : Played w w' base b v (K, Dk.more ws x, a) (ws.length + 1) := by
  obtain ⟨v', h1, h2, h3⟩ := h
  exact ⟨v', h1, Dk.more_len _ _, h2.back k.size, (k.but.trans h3 fun _ _ h => h)⟩
theorem played_same {w w' : World} {base b : Nat} {K : Dk.Fl} {v : Value} {ws : List Dk.W} {a : Int} (h : Dsk w base b K v ws) (k : Kept w w') : Played w w' base b v (K, ws, a) (ws.length + 1) :=
  ⟨v, h.kept k, Nat.le_succ _, .inl rfl, k.but⟩

end Go.Proofs.YtenhncohhikllaaDoor

namespace Go.Proofs.YtenhncohhikllaaDoor
open Go.ChangeShapes Go.WideShapes Go.ChangeAt Go.RowKit

theorem Dsk.but {S : Nat → Prop} {w w' : World} {base b : Nat} {K : Dk.Fl} {v : Value} {ws : List Dk.W} (h : Dsk w base b K v ws) (k : But S w w') (h1 : ¬ S b) (h2 : ∀ i, v.ownBlock = some i → ¬ S i) : Dsk w' base b K v ws :=
  ⟨k.at h.blk h1, h.low, h.row.but k h2, h.few, h.ok, h.fits⟩
/-- one disk is as it was when another one turned -/
theorem Dsk.over {w w' : World} {base b base' b' : Nat} {K K' : Dk.Fl} {v v' : Value} {ws ws' : List Dk.W} (h : Dsk w base b K v ws) (o : Dsk w base' b' K' v' ws') (hb : b ≠ b') (ha : RApart v v') (k : But (fun i => i = b' ∨ v'.ownBlock = some i) w w') : Dsk w' base b K v ws := by
  refine h.but k ?_ ?_
  · rintro (e | e)
    · exact hb e
    · obtain ⟨_, cur, hg⟩ := o.row.blk e
      have := h.blk
      rw [hg] at this
      cases this
  · rintro i e (rfl | e')
    · obtain ⟨_, cur, hg⟩ := h.row.blk e
      have := o.blk
      rw [hg] at this
      cases this
    · exact ha i e e'
/-- all that was there ahead of a disk is as it was -/
theorem Dsk.still {W w w' : World} {base b : Nat} {K : Dk.Fl} {v : Value} {ws : List Dk.W} (h : Dsk w base b K v ws) (hb : W.heap.size ≤ base) (k : Kept W w) (f : But (fun i => i = b ∨ v.ownBlock = some i) w w') : Kept W w' :=
  But.after k f fun i hi e => by
    rcases e with rfl | e
    · have := h.low; omega
    · have := (h.row.blk e).1; omega

theorem read_is {b base : Nat} {K : Dk.Fl} {v : Value} {ws : List Dk.W} (f : Int) (t : ByteArray) (w : World) (h : Dsk w base b K v ws) (ht : (if 0 ≤ f ∧ f < 4 then Dk.after K ws (Dk.total ws) f.toNat else ⟨#[]⟩) = t) :
    Calls Tryd.prog 27 #[.pointer (some ⟨b, 0, none⟩), .int .i64 f] w fun e w' => e = .returned (.string t) ∧ Kept w w' := ht ▸ read_disk f w h
theorem kept_is {b base : Nat} {K : Dk.Fl} {v : Value} {ws : List Dk.W} (f : Int) (t : ByteArray) (w : World) (h : Dsk w base b K v ws) (ht : (if 0 ≤ f ∧ f < 4 then K f.toNat else ⟨#[]⟩) = t) :
    Calls Tryd.prog 43 #[.pointer (some ⟨b, 0, none⟩), .int .i64 f] w fun e w' => e = .returned (.string t) ∧ Kept w w' := ht ▸ kept_disk f w h
theorem units_is {b base : Nat} {K : Dk.Fl} {v : Value} {ws : List Dk.W} (n : Int) (w : World) (h : Dsk w base b K v ws) (ht : (Dk.total ws : Int) = n) :
    Calls Tryd.prog 29 #[.pointer (some ⟨b, 0, none⟩)] w fun e w' => e = .returned (.int .i64 n) ∧ Kept w w' := ht ▸ units_disk w h
theorem crash_is {b base : Nat} {K K' : Dk.Fl} {v : Value} {ws : List Dk.W} (u n : Int) (w : World) (h : Dsk w base b K v ws) (u0 : -9223372036854775808 ≤ u) (u1 : u ≤ 9223372036854775807) (hn : ((min u.toNat (Dk.total ws) : Nat) : Int) = n) (hk : Dk.after K ws u.toNat = K') :
    Calls Tryd.prog 22 #[.pointer (some ⟨b, 0, none⟩), .int .i64 u] w fun e w' => e = .returned (.int .i64 n) ∧ Dsk w' base b K' (.slice none 0 0) [] ∧ But (fun i => i = b ∨ v.ownBlock = some i) w w' := by
  subst hn hk
  exact (crash_disk u w u0 u1 h).mono fun e w' ⟨h1, h2, h3⟩ => ⟨h1, h2, h3.mono fun _ _ h => .inl h⟩
theorem sync_is {b base : Nat} {K K' : Dk.Fl} {v : Value} {ws : List Dk.W} (w : World) (h : Dsk w base b K v ws) (hk : Dk.after K ws (Dk.total ws) = K') :
    Calls Tryd.prog 39 #[.pointer (some ⟨b, 0, none⟩)] w fun e w' => e = .returned (.tuple #[]) ∧ Dsk w' base b K' (.slice none 0 0) [] ∧ But (fun i => i = b ∨ v.ownBlock = some i) w w' := by
  subst hk
  exact (sync_disk w h).mono fun e w' ⟨h1, h2, h3⟩ => ⟨h1, h2, h3.mono fun _ _ h => .inl h⟩
/-- a write was done: the disk behind it -/
def Wrote (w w' : World) (base b : Nat) (K : Dk.Fl) (v : Value) (ws : List Dk.W) : Prop := ∃ v', Dsk w' base b K v' ws ∧ RWent w v v' ∧ But (fun i => i = b ∨ v.ownBlock = some i) w w'
theorem append_is {b base : Nat} {K : Dk.Fl} {v : Value} {ws : List Dk.W} (f : Int) (s : ByteArray) (a : Int) (ws' : List Dk.W) (w : World) (h : Dsk w base b K v ws) (hl : ws.length < 1000000) (hs : s.size ≤ 281474976710656) (ha : Dk.ansA (Dk.after K ws (Dk.total ws)) f s = a)
    (hw : (if a = 0 then Dk.more ws ⟨f.toNat, s, false⟩ else ws) = ws') :
    Calls Tryd.prog 20 #[.pointer (some ⟨b, 0, none⟩), .int .i64 f, .string s] w fun e w' => e = .returned (.int .i64 a) ∧ Wrote w w' base b K v ws' := by
  subst ha hw
  unfold Dk.ansA
  by_cases hf : 0 ≤ f ∧ f < 4
  · obtain ⟨k, rfl⟩ : ∃ k : Nat, f = (k : Int) := ⟨f.toNat, by omega⟩
    have hk : k < 4 := by omega
    simp only [if_pos hf, Int.toNat_natCast]
    by_cases hz : (Dk.after K ws (Dk.total ws) k).size + s.size ≤ 65536
    · simp only [if_pos hz]
      exact app_ok k s _ h hk hz hl
    · simp only [if_neg hz]
      exact (app_big k s _ h hk hs (by omega)).mono fun e w' ⟨h1, h2⟩ => ⟨h1, v, h.kept h2, .inl rfl, h2.but⟩
  · simp only [if_neg hf]
    exact (app_bad b f s _ hf).mono fun e w' ⟨h1, h2⟩ => ⟨h1, v, h.kept h2, .inl rfl, h2.but⟩
theorem replace_is {b base : Nat} {K : Dk.Fl} {v : Value} {ws : List Dk.W} (f : Int) (s : ByteArray) (a : Int) (ws' : List Dk.W) (w : World) (h : Dsk w base b K v ws) (hl : ws.length < 1000000) (hs : s.size ≤ maxLen) (ha : Dk.ansR f s = a)
    (hw : (if a = 0 then Dk.more ws ⟨f.toNat, s, true⟩ else ws) = ws') :
    Calls Tryd.prog 25 #[.pointer (some ⟨b, 0, none⟩), .int .i64 f, .string s] w fun e w' => e = .returned (.int .i64 a) ∧ Wrote w w' base b K v ws' := by
  subst ha hw
  unfold Dk.ansR
  by_cases hf : 0 ≤ f ∧ f < 4
  · obtain ⟨k, rfl⟩ : ∃ k : Nat, f = (k : Int) := ⟨f.toNat, by omega⟩
    have hk : k < 4 := by omega
    simp only [if_pos hf, Int.toNat_natCast]
    by_cases hz : s.size ≤ 65536
    · simp only [if_pos hz]
      exact rep_ok k s _ h hk hz hl
    · simp only [if_neg hz]
      exact (rep_big b k s _ hk (by omega) hs).mono fun e w' ⟨h1, h2⟩ => ⟨h1, v, h.kept h2, .inl rfl, h2.but⟩
  · simp only [if_neg hf]
    exact (rep_bad b f s _ hf).mono fun e w' ⟨h1, h2⟩ => ⟨h1, v, h.kept h2, .inl rfl, h2.but⟩

end Go.Proofs.YtenhncohhikllaaDoor
