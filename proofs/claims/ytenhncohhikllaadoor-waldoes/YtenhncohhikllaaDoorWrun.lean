/-
  A log that runs: memory and mathematics side by side.
-/
import Derived.Test.YtenhncohhikllaaDoorWopen
namespace Go.Proofs.YtenhncohhikllaaDoor
open Go.ChangeShapes Go.WideShapes Go.ChangeAt Go.RowKit

namespace Wg
theorem now_writes (K : Dk.Fl) (ws us : List Dk.W) : nowF K (ws ++ us) = Dk.after (nowF K ws) us (Dk.total us) := by
  unfold nowF
  rw [Dk.after_append, Dk.total_append, Dk.after_more K ws _ (by omega), Nat.add_sub_cancel_left]
theorem writes_app (x : St) (s : List UInt8) : writes x (.app s) = [⟨1, rowb x s, false⟩] := rfl
theorem writes_chk (x : St) (s : List UInt8) : writes x (.chk s) = [⟨0, rowb (x.chk s) s, true⟩, ⟨1, ⟨#[]⟩, true⟩] := rfl
theorem act_app (x : St) (s : List UInt8) : x.act (.app s) = x.add s := rfl
theorem act_chk (x : St) (s : List UInt8) : x.act (.chk s) = x.chk s := rfl
theorem stands_told {F : Dk.Fl} {x : St} (h : Stands F x) : told F = x := by
  obtain ⟨h1, h2⟩ := h
  unfold told
  rw [h1, h2]
theorem stands_head {F : Dk.Fl} {x : St} (h : Stands F x) : (head (F 0).data.toList).2.2 = 0 := by rw [h.1]
theorem stands_opened {F : Dk.Fl} {x : St} (h : Stands F x) (hr : x.r + 1 ≤ 1099511627776) (hl : ∀ s ∈ x.l, s.length ≤ 65000) : Exact (opened F) x := by
  have e := stands_told h
  refine ⟨?_, ?_, hr, hl⟩
  · show head (opened F 0).data.toList = _
    unfold opened
    rw [if_neg (by decide)]
    exact h.1
  · unfold opened
    rw [if_pos rfl, e]
theorem exact_opened {F : Dk.Fl} {x : St} (h : Exact F x) : opened F = F := by
  have e := stands_told h.stands
  funext i
  unfold opened
  by_cases hi : i = 1
  · rw [if_pos hi, e, hi, h.rows]
  · rw [if_neg hi]
end Wg

/-- a log that runs, k calls at most behind it -/
structure Run (w : World) (base b d : Nat) (K : Dk.Fl) (v : Value) (ws : List Dk.W) (x : Wg.St) (lv : Value) (sure k : Nat) : Prop where
  ld : LD w base b d K v ws x lv sure
  ex : Wg.Exact (nowF K ws) x
  nr : x.r ≤ k
  nl : x.l.length ≤ k
  st : x.st.length ≤ 60
  sm : ∀ y ∈ x.l, y.length ≤ 60
  nw : ws.length ≤ 2 * k
theorem Run.kept {w w' : World} {base b d : Nat} {K : Dk.Fl} {v : Value} {ws : List Dk.W} {x : Wg.St} {lv : Value} {sure k : Nat} (h : Run w base b d K v ws x lv sure k) (q : Kept w w') : Run w' base b d K v ws x lv sure k :=
  ⟨h.ld.kept q, h.ex, h.nr, h.nl, h.st, h.sm, h.nw⟩
theorem Run.to {w w' : World} {base b d : Nat} {K : Dk.Fl} {v : Value} {ws : List Dk.W} {x : Wg.St} {lv : Value} {sure k : Nat} (h : Run w base b d K v ws x lv sure k) (l : LD w' base b d K v ws x lv sure) : Run w' base b d K v ws x lv sure k :=
  ⟨l, h.ex, h.nr, h.nl, h.st, h.sm, h.nw⟩
theorem Run.more {w : World} {base b d : Nat} {K : Dk.Fl} {v : Value} {ws : List Dk.W} {x : Wg.St} {lv : Value} {sure k k' : Nat} (h : Run w base b d K v ws x lv sure k) (q : k ≤ k') : Run w base b d K v ws x lv sure k' :=
  ⟨h.ld, h.ex, Nat.le_trans h.nr q, Nat.le_trans h.nl q, h.st, h.sm, by have := h.nw; omega⟩
/-- behind a call: the run anew -/
def Ran (w w' : World) (base b d : Nat) (v lv : Value) (K : Dk.Fl) (ws : List Dk.W) (x : Wg.St) (sure k : Nat) : Prop :=
  ∃ v' lv', Run w' base b d K v' ws x lv' sure k ∧ RWent w v v' ∧ RWent w lv lv' ∧ But (LS b d v lv) w w'
theorem Run.file {w : World} {base b d : Nat} {K : Dk.Fl} {v : Value} {ws : List Dk.W} {x : Wg.St} {lv : Value} {sure k : Nat} (h : Run w base b d K v ws x lv sure k) : (nowF K ws 1).size ≤ 82 * k := by
  rw [h.ex.rows, Wg.ba_size]
  exact Nat.le_trans (Wg.text_le x.r 60 x.l h.sm) (Nat.mul_le_mul_left _ h.nl)

theorem run_app {base b d : Nat} {K : Dk.Fl} {v : Value} {ws : List Dk.W} {x : Wg.St} {lv : Value} {sure k : Nat} (s : ByteArray) (w : World) (h : Run w base b d K v ws x lv sure k) (hs : s.size ≤ 60) (hk : k ≤ 100) (hT : Tab w) :
    Calls Tryd.prog 14 #[.pointer (some ⟨b, 0, none⟩), .string s] w fun e w' => e = .returned (.int .i64 0) ∧ Ran w w' base b d v lv K (ws ++ Wg.writes x (.app s.data.toList)) (x.act (.app s.data.toList)) sure (k + 1) := by
  have hf := h.file
  have hq := (Wg.rowb_size x s.data.toList).1
  have hn := h.nl
  have hr := h.nr
  have hw := h.nw
  rw [size_len] at hq
  refine (logappend_any s w h.ld (by omega) (by omega) (by omega) hT (by omega)).mono ?_
  rintro e w' ⟨he, v', lv', l', t1, t2, f⟩
  refine ⟨he, v', lv', ⟨l', ?_, Nat.le_succ_of_le hr, ?_, h.st, ?_, ?_⟩, t1, t2, f⟩
  · rw [Wg.now_writes]
    exact Wg.exact_act h.ex _ (by show s.data.toList.length ≤ 65000; rw [size_len]; omega) (by show x.r + 1 ≤ _; omega)
  · show (x.l ++ [s.data.toList]).length ≤ _
    rw [List.length_append, List.length_singleton]; omega
  · intro y hy
    rcases List.mem_append.1 hy with hy | hy
    · exact h.sm y hy
    · rw [List.mem_singleton.1 hy, size_len]; exact hs
  · rw [Wg.writes_app, List.length_append, List.length_singleton]; omega
theorem run_chk {W : World} {base b d : Nat} {K : Dk.Fl} {v : Value} {ws : List Dk.W} {x : Wg.St} {lv : Value} {sure k : Nat} (s : ByteArray) (w : World) (h : Run w base b d K v ws x lv sure k) (hs : s.size ≤ 60) (hk : k ≤ 100) (hT : Tab W) (hW : W.heap.size ≤ base) (kW : Kept W w) :
    Calls Tryd.prog 16 #[.pointer (some ⟨b, 0, none⟩), .string s] w fun e w' => e = .returned (.int .i64 0) ∧ Ran w w' base b d v lv K (ws ++ Wg.writes x (.chk s.data.toList)) (x.act (.chk s.data.toList)) 0 (k + 1) := by
  have hr := h.nr
  have hw := h.nw
  refine (logcheck_any s w h.ld (by omega) (by omega) (by omega) hT hW kW).mono ?_
  rintro e w' ⟨he, v', lv', l', t1, t2, f⟩
  refine ⟨he, v', lv', ⟨l', ?_, ?_, Nat.zero_le _, ?_, (fun y hy => by cases hy), ?_⟩, t1, t2, f⟩
  · rw [Wg.now_writes]
    exact Wg.exact_act h.ex _ (by show s.data.toList.length ≤ 65000; rw [size_len]; omega) (by show x.r + 1 + 1 ≤ _; omega)
  · show x.r + 1 ≤ k + 1; omega
  · show s.data.toList.length ≤ 60; rw [size_len]; exact hs
  · rw [Wg.writes_chk, List.length_append]; simp only [List.length_cons, List.length_nil]; omega
theorem run_sync {base b d : Nat} {K : Dk.Fl} {v : Value} {ws : List Dk.W} {x : Wg.St} {lv : Value} {sure k : Nat} (w : World) (h : Run w base b d K v ws x lv sure k) :
    Calls Tryd.prog 18 #[.pointer (some ⟨b, 0, none⟩)] w fun e w' => e = .returned (.tuple #[]) ∧ Ran w w' base b d v lv (nowF K ws) [] x x.l.length k := by
  refine (logsync_any w h.ld).mono ?_
  rintro e w' ⟨he, v', lv', l', t1, t2, f⟩
  exact ⟨he, v', lv', ⟨l', h.ex, h.nr, h.nl, h.st, h.sm, Nat.zero_le _⟩, t1, t2, f⟩
/-- a log that is opened over files that tell it -/
theorem run_open {W : World} {base d : Nat} {K : Dk.Fl} {v : Value} {ws : List Dk.W} {x : Wg.St} {k : Nat} (w : World) (h : Dsk w base d K v ws) (hl : ws.length < 1000000) (hT : Tab W) (hW : W.heap.size ≤ base) (kW : Kept W w) (hx : Wg.Stands (nowF K ws) x) (hr : x.r ≤ k) (hk : k ≤ 1000000) (hn : x.l.length ≤ k) (hst : x.st.length ≤ 60) (hsm : ∀ y ∈ x.l, y.length ≤ 60) :
    Calls Tryd.prog 11 #[.pointer (some ⟨d, 0, none⟩)] w fun e w' => ∃ b lv, e = .returned (.tuple #[.pointer (some ⟨b, 0, none⟩), .int .i64 0]) ∧
      Run w' base b d (Wg.opened (nowF K ws)) (.slice none 0 0) [] x lv x.l.length k ∧ w.heap.size ≤ b ∧ (∀ i, lv.ownBlock = some i → w.heap.size ≤ i) ∧ But (fun i => i = d ∨ v.ownBlock = some i) w w' := by
  refine (logopen_any w h hl hT hW kW (Wg.stands_head hx)).mono ?_
  rintro e w' ⟨b, lv, he, l', h1, h2, f⟩
  rw [Wg.stands_told hx] at l'
  exact ⟨b, lv, he, ⟨l', Wg.stands_opened hx (by omega) fun y hy => by have := hsm y hy; omega, hr, hn, hst, hsm, Nat.zero_le _⟩, h1, h2, f⟩
/-- a new disk's log -/
theorem stands_new : Wg.Stands (nowF (fun _ => ⟨#[]⟩) []) ⟨0, [], []⟩ := (Wg.exact_new _ rfl rfl).stands
end Go.Proofs.YtenhncohhikllaaDoor
