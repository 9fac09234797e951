/-
  What WalDoes goes through: the program's log and the document's, side by side, call by call.
-/
import Derived.Test.YtenhncohhikllaaDoorWsame
namespace Go.Proofs.YtenhncohhikllaaDoor
open Go.ChangeShapes Go.WideShapes Go.ChangeAt Go.RowKit

/-- what may stand on the disk behind a crash anywhere, k calls at most behind it -/
structure Dsp (K : Dk.Fl) (ws : List Dk.W) (k : Nat) : Prop where
  nw : ws.length ≤ 4 * k
  head : ∀ n, (Wg.head (Dk.after K ws n 0).data.toList).2.2 = 0 ∧ (Wg.head (Dk.after K ws n 0).data.toList).1 ≤ k
  rows : ∀ n, (Dk.after K ws n 1).size ≤ 82 * k
theorem Dsp.more {K : Dk.Fl} {ws : List Dk.W} {k k' : Nat} (h : Dsp K ws k) (q : k ≤ k') : Dsp K ws k' :=
  ⟨by have := h.nw; omega, fun n => ⟨(h.head n).1, Nat.le_trans (h.head n).2 q⟩, fun n => by have := h.rows n; omega⟩
theorem put_other (F : Dk.Fl) (q : ByteArray) (b : Bool) (m : Nat) : Dk.put F ⟨1, q, b⟩ m 0 = F 0 := rfl
theorem put_row (F : Dk.Fl) (q : ByteArray) (m : Nat) : Dk.put F ⟨1, q, false⟩ m 1 = F 1 ++ q.extract 0 m := rfl
theorem Dsp.app {K : Dk.Fl} {ws : List Dk.W} {k : Nat} (h : Dsp K ws k) (q : ByteArray) (hq : q.size ≤ 82) : Dsp K (ws ++ [⟨1, q, false⟩]) (k + 1) := by
  refine ⟨?_, fun n => ?_, fun n => ?_⟩
  · have := h.nw
    rw [List.length_append, List.length_singleton]; omega
  · rw [Dk.after_snoc, put_other]
    exact ⟨(h.head n).1, Nat.le_succ_of_le (h.head n).2⟩
  · have := h.rows n
    rw [Dk.after_snoc, put_row, ByteArray.size_append, ByteArray.size_extract]; omega
theorem Dsp.chk {K : Dk.Fl} {ws : List Dk.W} {k r : Nat} {s : List UInt8} (h : Dsp K ws k) (q : ByteArray) (hq : Wg.head q.data.toList = (r, s, 0)) (hr : r ≤ k + 1) : Dsp K (ws ++ [⟨0, q, true⟩, ⟨1, ⟨#[]⟩, true⟩]) (k + 1) := by
  have e : ws ++ [⟨0, q, true⟩, ⟨1, ⟨#[]⟩, true⟩] = (ws ++ [⟨0, q, true⟩]) ++ [⟨1, ⟨#[]⟩, true⟩] := by simp
  refine ⟨?_, fun n => ?_, fun n => ?_⟩
  · have := h.nw
    rw [List.length_append]; simp only [List.length_cons, List.length_nil]; omega
  · rw [e, Dk.after_snoc, put_other, Dk.after_snoc]
    generalize min (Dk.units ⟨0, q, true⟩) (n - Dk.total ws) = m
    have e2 : Dk.put (Dk.after K ws n) ⟨0, q, true⟩ m 0 = if m = 0 then Dk.after K ws n 0 else q := rfl
    rw [e2]
    by_cases hm : m = 0
    · rw [if_pos hm]
      exact ⟨(h.head n).1, Nat.le_succ_of_le (h.head n).2⟩
    · rw [if_neg hm, hq]
      exact ⟨rfl, hr⟩
  · rw [e, Dk.after_snoc, Dk.after_snoc]
    generalize min (Dk.units ⟨1, ⟨#[]⟩, true⟩) (n - Dk.total (ws ++ [⟨0, q, true⟩])) = m2
    generalize min (Dk.units ⟨0, q, true⟩) (n - Dk.total ws) = m
    have e2 : Dk.put (Dk.put (Dk.after K ws n) ⟨0, q, true⟩ m) ⟨1, ⟨#[]⟩, true⟩ m2 1 = if m2 = 0 then Dk.after K ws n 1 else ⟨#[]⟩ := rfl
    rw [e2]
    have := h.rows n
    by_cases hm : m2 = 0
    · rw [if_pos hm]; omega
    · rw [if_neg hm]; exact Nat.zero_le _
/-- only what stands behind n units -/
theorem Dsp.at {K : Dk.Fl} {ws : List Dk.W} {k : Nat} (h : Dsp K ws k) (n : Nat) : Dsp (Dk.after K ws n) [] k := ⟨Nat.zero_le _, fun _ => h.head n, fun _ => h.rows n⟩
theorem Dsp.new : Dsp (fun _ => ⟨#[]⟩) [] 0 := ⟨Nat.le_refl _, fun _ => ⟨rfl, Nat.le_refl _⟩, fun _ => Nat.le_refl _⟩
theorem Dsp.told {K : Dk.Fl} {k : Nat} (h : Dsp K [] k) : (Wg.told K).r ≤ k ∧ (Wg.told K).l.length ≤ 82 * k := by
  refine ⟨(h.head 0).2, ?_⟩
  have h1 := (Wg.recs_le (K 1).data.toList (Wg.head (K 0).data.toList).1).1
  have h2 : (K 1).size ≤ 82 * k := h.rows 0
  rw [size_len] at h1
  exact Nat.le_trans h1 h2
theorem Dsp.opened {K : Dk.Fl} {k : Nat} (h : Dsp K [] k) : Dsp (Wg.opened K) [] k := by
  refine ⟨Nat.zero_le _, fun _ => h.head 0, fun _ => ?_⟩
  have e : Wg.opened K 1 = Wg.ba (Wg.text (Wg.told K).r (Wg.told K).l) := rfl
  have h1 := Wg.text_recs (K 1).data.toList (Wg.head (K 0).data.toList).1
  have h2 : (K 1).size ≤ 82 * k := h.rows 0
  rw [size_len] at h1
  show (Wg.opened K 1).size ≤ _
  rw [e, Wg.ba_size]
  exact Nat.le_trans h1 h2

/-- both logs, k calls at most behind them -/
def Both (w1 w : World) (base b d rb rd k : Nat) : Prop :=
  ∃ K v rv ws x lv rlv sure, LD w base b d K v ws x lv sure ∧ RP w base rb rd K rv ws x rlv sure ∧ RApart lv rlv ∧ Dsp K ws k ∧ x.r ≤ k ∧ x.l.length ≤ 82 * k ∧ Kept w1 w
theorem Both.kept {w1 w w' : World} {base b d rb rd k : Nat} (h : Both w1 w base b d rb rd k) (q : Kept w w') : Both w1 w' base b d rb rd k := by
  obtain ⟨K, v, rv, ws, x, lv, rlv, sure, h1, h2, h3, h4, h5, h6, h7⟩ := h
  exact ⟨K, v, rv, ws, x, lv, rlv, sure, h1.kept q, h2.kept q, h3, h4, h5, h6, h7.trans q⟩
theorem Both.k1 {w1 w : World} {base b d rb rd k : Nat} (h : Both w1 w base b d rb rd k) : Kept w1 w := by
  obtain ⟨K, v, rv, ws, x, lv, rlv, sure, h1, h2, h3, h4, h5, h6, h7⟩ := h
  exact h7
theorem Both.more {w1 w : World} {base b d rb rd k k' : Nat} (h : Both w1 w base b d rb rd k) (q : k ≤ k') : Both w1 w base b d rb rd k' := by
  obtain ⟨K, v, rv, ws, x, lv, rlv, sure, h1, h2, h3, h4, h5, h6, h7⟩ := h
  exact ⟨K, v, rv, ws, x, lv, rlv, sure, h1, h2, h3, h4.more q, by omega, by omega, h7⟩
theorem both_same {w1 : World} {base b d rb rd k : Nat} (w : World) (h : Both w1 w base b d rb rd k) :
    Calls Tryd.prog 13 #[.pointer (some ⟨b, 0, none⟩), .pointer (some ⟨rb, 0, none⟩), .pointer (some ⟨d, 0, none⟩)] w fun e w' => e = .returned (.bool true) ∧ Kept w w' := by
  obtain ⟨K, v, rv, ws, x, lv, rlv, sure, h1, h2, _⟩ := h
  exact wsame_any w h1 h2

/-- the program's Append is done, the document's is not -/
def MidA (s : ByteArray) (w1 w : World) (base b d rb rd k : Nat) : Prop :=
  ∃ K v rv ws x lv rlv sure, LD w base b d K v (ws ++ [⟨1, Wg.rowb x s.data.toList, false⟩]) (x.add s.data.toList) lv sure ∧ RP w base rb rd K rv ws x rlv sure ∧ RApart lv rlv ∧ Dsp K ws k ∧ x.r ≤ k ∧ x.l.length ≤ 82 * k ∧ Kept w1 w
theorem MidA.kept {s : ByteArray} {w1 w w' : World} {base b d rb rd k : Nat} (h : MidA s w1 w base b d rb rd k) (q : Kept w w') : MidA s w1 w' base b d rb rd k := by
  obtain ⟨K, v, rv, ws, x, lv, rlv, sure, h1, h2, h3, h4, h5, h6, h7⟩ := h
  exact ⟨K, v, rv, ws, x, lv, rlv, sure, h1.kept q, h2.kept q, h3, h4, h5, h6, h7.trans q⟩
theorem MidA.k1 {s : ByteArray} {w1 w : World} {base b d rb rd k : Nat} (h : MidA s w1 w base b d rb rd k) : Kept w1 w := by
  obtain ⟨K, v, rv, ws, x, lv, rlv, sure, h1, h2, h3, h4, h5, h6, h7⟩ := h
  exact h7
theorem both_app {w1 : World} {base b d rb rd k : Nat} (s : ByteArray) (w : World) (h : Both w1 w base b d rb rd k) (hs : s.size ≤ 60) (hk : k ≤ 40) (hT : Tab w1) (hW : w1.heap.size ≤ base) :
    Calls Tryd.prog 14 #[.pointer (some ⟨b, 0, none⟩), .string s] w fun e w' => e = .returned (.int .i64 0) ∧ MidA s w1 w' base b d rb rd k := by
  obtain ⟨K, v, rv, ws, x, lv, rlv, sure, h1, h2, h3, h4, h5, h6, h7⟩ := h
  have hq := (Wg.rowb_size x s.data.toList).1
  rw [size_len] at hq
  have hw := h4.nw
  have hf : (nowF K ws 1).size ≤ 82 * k := h4.rows (Dk.total ws)
  refine (logappend_any s w h1 (by omega) (by omega) (by omega) (hT.kept h7) (by omega)).mono ?_
  rintro e w' ⟨he, v', lv', l', t1, t2, f⟩
  exact ⟨he, K, v', rv, ws, x, lv', rlv, sure, l', h2.past h1 h3 f, h3.went t2 h2.log.row, h4, h5, h6, h1.still hW h7 f⟩
theorem mid_app {w1 : World} {base b d rb rd k : Nat} (s : ByteArray) (w : World) (h : MidA s w1 w base b d rb rd k) (hs : s.size ≤ 60) (hk : k ≤ 40) (hW : w1.heap.size ≤ base) :
    Calls Tryd.prog 15 #[.pointer (some ⟨rb, 0, none⟩), .string s] w fun e w' => e = .returned (.int .i64 0) ∧ Both w1 w' base b d rb rd (k + 1) := by
  obtain ⟨K, v, rv, ws, x, lv, rlv, sure, h1, h2, h3, h4, h5, h6, h7⟩ := h
  have hq := (Wg.rowb_size x s.data.toList).1
  rw [size_len] at hq
  have hw := h4.nw
  have hf : (nowF K ws 1).size ≤ 82 * k := h4.rows (Dk.total ws)
  refine (rlappend_any s w h2 (by omega) (by omega) (by omega) (by omega)).mono ?_
  rintro e w' ⟨he, v', lv', l', t1, t2, f⟩
  refine ⟨he, K, v, v', _, _, lv, lv', sure, h1.aside h2 h3 f, l', (h3.symm.went t2 h1.log.row).symm, h4.app _ (by omega), Nat.le_succ_of_le h5, ?_, h2.still hW h7 f⟩
  show (x.l ++ [s.data.toList]).length ≤ _
  rw [List.length_append, List.length_singleton]; omega

/-- the program's Check is done, the document's is not -/
def MidC (s : ByteArray) (w1 w : World) (base b d rb rd k : Nat) : Prop :=
  ∃ K v rv ws x lv rlv sure, LD w base b d K v (ws ++ [⟨0, Wg.rowb (x.chk s.data.toList) s.data.toList, true⟩, ⟨1, ⟨#[]⟩, true⟩]) (x.chk s.data.toList) lv 0 ∧ RP w base rb rd K rv ws x rlv sure ∧ RApart lv rlv ∧ Dsp K ws k ∧ x.r ≤ k ∧ x.l.length ≤ 82 * k ∧ Kept w1 w
theorem MidC.k1 {s : ByteArray} {w1 w : World} {base b d rb rd k : Nat} (h : MidC s w1 w base b d rb rd k) : Kept w1 w := by
  obtain ⟨K, v, rv, ws, x, lv, rlv, sure, h1, h2, h3, h4, h5, h6, h7⟩ := h
  exact h7
theorem both_chk {w1 : World} {base b d rb rd k : Nat} (s : ByteArray) (w : World) (h : Both w1 w base b d rb rd k) (hs : s.size ≤ 60) (hk : k ≤ 40) (hT : Tab w1) (hW : w1.heap.size ≤ base) :
    Calls Tryd.prog 16 #[.pointer (some ⟨b, 0, none⟩), .string s] w fun e w' => e = .returned (.int .i64 0) ∧ MidC s w1 w' base b d rb rd k := by
  obtain ⟨K, v, rv, ws, x, lv, rlv, sure, h1, h2, h3, h4, h5, h6, h7⟩ := h
  have hw := h4.nw
  refine (logcheck_any s w h1 (by omega) (by omega) (by omega) hT hW h7).mono ?_
  rintro e w' ⟨he, v', lv', l', t1, t2, f⟩
  exact ⟨he, K, v', rv, ws, x, lv', rlv, sure, l', h2.past h1 h3 f, h3.went t2 h2.log.row, h4, h5, h6, h1.still hW h7 f⟩
theorem mid_chk {w1 : World} {base b d rb rd k : Nat} (s : ByteArray) (w : World) (h : MidC s w1 w base b d rb rd k) (hs : s.size ≤ 60) (hk : k ≤ 40) (hW : w1.heap.size ≤ base) :
    Calls Tryd.prog 17 #[.pointer (some ⟨rb, 0, none⟩), .string s] w fun e w' => e = .returned (.int .i64 0) ∧ Both w1 w' base b d rb rd (k + 1) := by
  obtain ⟨K, v, rv, ws, x, lv, rlv, sure, h1, h2, h3, h4, h5, h6, h7⟩ := h
  have hw := h4.nw
  refine (rlcheck_any s w h2 (by omega) (by omega) (by omega)).mono ?_
  rintro e w' ⟨he, v', lv', l', t1, t2, f⟩
  have hr : (x.chk s.data.toList).r = x.r + 1 := rfl
  have hh : Wg.head (Wg.rowb (x.chk s.data.toList) s.data.toList).data.toList = (x.r + 1, s.data.toList, 0) := by
    unfold Wg.rowb
    rw [Wg.ba_list, hr]
    exact Wg.head_row _ _ (by omega) (by rw [size_len]; omega)
  exact ⟨he, K, v, v', _, _, lv, lv', 0, h1.aside h2 h3 f, l', (h3.symm.went t2 h1.log.row).symm, h4.chk _ hh (by omega), (by show x.r + 1 ≤ k + 1; omega), Nat.zero_le _, h2.still hW h7 f⟩

/-- the program's Sync is done, the document's is not -/
def MidS (w1 w : World) (base b d rb rd k : Nat) : Prop :=
  ∃ K v rv ws x lv rlv sure, LD w base b d (nowF K ws) v [] x lv x.l.length ∧ RP w base rb rd K rv ws x rlv sure ∧ RApart lv rlv ∧ Dsp K ws k ∧ x.r ≤ k ∧ x.l.length ≤ 82 * k ∧ Kept w1 w
theorem both_sync {w1 : World} {base b d rb rd k : Nat} (w : World) (h : Both w1 w base b d rb rd k) (hW : w1.heap.size ≤ base) :
    Calls Tryd.prog 18 #[.pointer (some ⟨b, 0, none⟩)] w fun e w' => e = .returned (.tuple #[]) ∧ MidS w1 w' base b d rb rd k := by
  obtain ⟨K, v, rv, ws, x, lv, rlv, sure, h1, h2, h3, h4, h5, h6, h7⟩ := h
  refine (logsync_any w h1).mono ?_
  rintro e w' ⟨he, v', lv', l', t1, t2, f⟩
  exact ⟨he, K, v', rv, ws, x, lv', rlv, sure, l', h2.past h1 h3 f, h3.went t2 h2.log.row, h4, h5, h6, h1.still hW h7 f⟩
theorem mid_sync {w1 : World} {base b d rb rd k : Nat} (w : World) (h : MidS w1 w base b d rb rd k) (hW : w1.heap.size ≤ base) :
    Calls Tryd.prog 19 #[.pointer (some ⟨rb, 0, none⟩)] w fun e w' => e = .returned (.tuple #[]) ∧ Both w1 w' base b d rb rd (k + 1) := by
  obtain ⟨K, v, rv, ws, x, lv, rlv, sure, h1, h2, h3, h4, h5, h6, h7⟩ := h
  refine (rlsync_any w h2).mono ?_
  rintro e w' ⟨he, l', f0⟩
  have f : But (LS rb rd rv rlv) w w' := f0.mono fun _ _ e => e.elim .inl fun e => .inr (.inl e)
  exact ⟨he, _, v, _, _, x, lv, rlv, _, h1.aside h2 h3 f, l', h3, (h4.at _).more (Nat.le_succ _), Nat.le_succ_of_le h5, by omega, h2.still hW h7 f⟩

/-- both disks, with what was written since the last sync -/
def Disks (w1 w : World) (base d rd k : Nat) : Prop :=
  ∃ K v rv ws W, Dsk w base d K v ws ∧ RD w base rd K rv W ∧ (∀ n, Dk.after K ws n = Dk.after K W n) ∧ Dsp K W k ∧ Kept w1 w
theorem Both.disks {w1 w : World} {base b d rb rd k : Nat} (h : Both w1 w base b d rb rd k) : Disks w1 w base d rd (k + 1) := by
  obtain ⟨K, v, rv, ws, x, lv, rlv, sure, h1, h2, h3, h4, h5, h6, h7⟩ := h
  exact ⟨K, v, rv, ws, ws, h1.dsk, h2.dsk, fun _ => rfl, h4.more (Nat.le_succ _), h7⟩
/-- the program's disk is spoiled, the document's is not -/
def MidP (s : ByteArray) (w1 w : World) (base d rd k : Nat) : Prop :=
  ∃ K v rv ws, Dsk w base d K v (Dk.more ws ⟨1, s, false⟩) ∧ RD w base rd K rv ws ∧ Dsp K ws k ∧ Kept w1 w
theorem MidP.k1 {s : ByteArray} {w1 w : World} {base d rd k : Nat} (h : MidP s w1 w base d rd k) : Kept w1 w := by
  obtain ⟨K, v, rv, ws, h1, h2, h4, h7⟩ := h
  exact h7
theorem both_spoil {w1 : World} {base b d rb rd k : Nat} (s : ByteArray) (w : World) (h : Both w1 w base b d rb rd k) (hs : s.size ≤ 60) (hk : k ≤ 40) (hW : w1.heap.size ≤ base) :
    Calls Tryd.prog 20 #[.pointer (some ⟨d, 0, none⟩), .int .i64 1, .string s] w fun e w' => e = .returned (.int .i64 0) ∧ MidP s w1 w' base d rd k := by
  obtain ⟨K, v, rv, ws, x, lv, rlv, sure, h1, h2, h3, h4, h5, h6, h7⟩ := h
  have hw := h4.nw
  have hf : (Dk.after K ws (Dk.total ws) 1).size ≤ 82 * k := h4.rows (Dk.total ws)
  refine (append_is (a := 0) (ws' := Dk.more ws ⟨1, s, false⟩) 1 s w h1.dsk (by omega) (by omega) ?_ (by rw [if_pos rfl]; rfl)).mono ?_
  · unfold Dk.ansA
    have e : (1 : Int).toNat = 1 := rfl
    rw [if_pos (by omega), e, if_pos (by omega)]
  · rintro e w' ⟨he, v', d', _, f⟩
    exact ⟨he, K, v', rv, ws, d', h2.dsk.aside h1.dsk f, h4, h1.dsk.still hW h7 f⟩
theorem after_more_same (K : Dk.Fl) (ws : List Dk.W) (x : Dk.W) (n : Nat) : Dk.after K (Dk.more ws x) n = Dk.after K (ws ++ [x]) n := by
  unfold Dk.more
  by_cases h : Dk.units x = 0
  · rw [if_pos h, Dk.after_snoc, h, Nat.zero_min, Dk.put_zero]
  · rw [if_neg h]
theorem mid_spoil {w1 : World} {base d rd k : Nat} (s : ByteArray) (w : World) (h : MidP s w1 w base d rd k) (hs : s.size ≤ 60) (hk : k ≤ 40) (hW : w1.heap.size ≤ base) :
    Calls Tryd.prog 21 #[.pointer (some ⟨rd, 0, none⟩), .int .i64 1, .string s] w fun e w' => e = .returned (.int .i64 0) ∧ Disks w1 w' base d rd (k + 1) := by
  obtain ⟨K, v, rv, ws, h1, h2, h4, h7⟩ := h
  have hw := h4.nw
  have hf : (Dk.after K ws (Dk.total ws) 1).size ≤ 82 * k := h4.rows (Dk.total ws)
  refine (rapp_ok 1 s w h2 (by omega) (by omega) (by omega)).mono ?_
  rintro e w' ⟨he, v', d', _, f⟩
  exact ⟨he, K, v, v', _, _, h1.by h2 f, d', fun n => after_more_same K ws _ n, h4.app _ (by omega), h2.still hW h7 f⟩
/-- the program's disk has crashed, the document's has not -/
def MidX (n : Int) (w1 w : World) (base d rd k : Nat) : Prop :=
  ∃ K rv W, Dsk w base d (Dk.after K W n.toNat) (.slice none 0 0) [] ∧ RD w base rd K rv W ∧ Dsp K W k ∧ Kept w1 w
theorem MidX.k1 {n : Int} {w1 w : World} {base d rd k : Nat} (h : MidX n w1 w base d rd k) : Kept w1 w := by
  obtain ⟨K, rv, W, h1, h2, h4, h7⟩ := h
  exact h7
theorem Disks.k1 {w1 w : World} {base d rd k : Nat} (h : Disks w1 w base d rd k) : Kept w1 w := by
  obtain ⟨K, v, rv, ws, W, h1, h2, h3, h4, h7⟩ := h
  exact h7
/-- both disks behind a crash -/
def Fresh (w1 w : World) (base d rd k : Nat) : Prop :=
  ∃ K rv, Dsk w base d K (.slice none 0 0) [] ∧ RD w base rd K rv [] ∧ Dsp K [] k ∧ Kept w1 w
theorem disks_crash {w1 : World} {base d rd k : Nat} (n : Int) (w : World) (h : Disks w1 w base d rd k) (n0 : -9223372036854775808 ≤ n) (n1 : n ≤ 9223372036854775807) (hW : w1.heap.size ≤ base) :
    Calls Tryd.prog 22 #[.pointer (some ⟨d, 0, none⟩), .int .i64 n] w fun e w' => (∃ m, e = .returned (.int .i64 m)) ∧ MidX n w1 w' base d rd k := by
  obtain ⟨K, v, rv, ws, W, h1, h2, h3, h4, h7⟩ := h
  refine (crash_is (K' := Dk.after K W n.toNat) n _ w h1 n0 n1 rfl (h3 _)).mono ?_
  rintro e w' ⟨he, d', f⟩
  exact ⟨⟨_, he⟩, K, rv, W, d', h2.aside h1 f, h4, h1.still hW h7 f⟩
theorem mid_crash {w1 : World} {base d rd k : Nat} (n : Int) (w : World) (h : MidX n w1 w base d rd k) (n0 : -9223372036854775808 ≤ n) (n1 : n ≤ 9223372036854775807) (hW : w1.heap.size ≤ base) :
    Calls Tryd.prog 23 #[.pointer (some ⟨rd, 0, none⟩), .int .i64 n] w fun e w' => (∃ m, e = .returned (.int .i64 m)) ∧ Fresh w1 w' base d rd k := by
  obtain ⟨K, rv, W, h1, h2, h4, h7⟩ := h
  refine (rcrash_any n w n0 n1 h2).mono ?_
  rintro e w' ⟨he, d', f0⟩
  have f : But (fun i => i = rd ∨ rv.ownBlock = some i) w w' := f0.mono fun _ _ e => .inl e
  exact ⟨⟨_, he⟩, _, _, h1.by h2 f, d', h4.at _, h2.still hW h7 f⟩
/-- the program's log is opened, the document's is not -/
def MidO (w1 w : World) (base b d rd k : Nat) : Prop :=
  ∃ K rv lv, LD w base b d (Wg.opened K) (.slice none 0 0) [] (Wg.told K) lv (Wg.told K).l.length ∧ RD w base rd K rv [] ∧ Dsp K [] k ∧ Kept w1 w
theorem fresh_open {w1 : World} {base d rd k : Nat} (w : World) (h : Fresh w1 w base d rd k) (hT : Tab w1) (hW : w1.heap.size ≤ base) :
    Calls Tryd.prog 11 #[.pointer (some ⟨d, 0, none⟩)] w fun e w' => ∃ b, e = .returned (.tuple #[.pointer (some ⟨b, 0, none⟩), .int .i64 0]) ∧ MidO w1 w' base b d rd k := by
  obtain ⟨K, rv, h1, h2, h4, h7⟩ := h
  refine (logopen_any w h1 (by simp) hT hW h7 (h4.head 0).1).mono ?_
  rintro e w' ⟨b, lv, he, l', _, _, f⟩
  exact ⟨b, he, K, rv, lv, l', h2.aside h1 f, h4, h1.still hW h7 f⟩
theorem mid_open {w1 : World} {base b d rd k : Nat} (w : World) (h : MidO w1 w base b d rd k) (hW : w1.heap.size ≤ base) :
    Calls Tryd.prog 12 #[.pointer (some ⟨rd, 0, none⟩)] w fun e w' => ∃ rb, e = .returned (.tuple #[.pointer (some ⟨rb, 0, none⟩), .int .i64 0]) ∧ Both w1 w' base b d rb rd k := by
  obtain ⟨K, rv, lv, h1, h2, h4, h7⟩ := h
  refine (rlopen_any w h2 (by simp) (h4.head 0).1).mono ?_
  rintro e w' ⟨rb, rlv, he, r', _, hl, f⟩
  refine ⟨rb, he, _, _, _, _, _, lv, rlv, _, h1.by h2 f, r', fun i e1 e2 => ?_, h4.opened, h4.told.1, h4.told.2, h2.still hW h7 f⟩
  obtain ⟨_, cur, hg⟩ := h1.log.row.blk e1
  have := heap_lt hg
  have := hl i e2
  omega
end Go.Proofs.YtenhncohhikllaaDoor
