/-
  A channel's buffer in memory; the walks of a row's newRow, send, receive and next.
-/
import Derived.Test.YtcachpcefeoolaaMstrs
import Derived.Test.YtcachpcefeoolaaZbut
import Derived.Test.YtcachpcefeoolaaVclone
import Derived.Conc.LoneSelect
import Derived.Conc.LoneSelectN
import Derived.KernelRfl
import Derived.Laws.Rows
namespace Go.Proofs.Ytcachpcefeoolaa
open Go.Conc Go.RowKit

/-- texts as values -/
def bufv (l : List ByteArray) : Array Value := (l.map Value.string).toArray
theorem bufv_size (l : List ByteArray) : (bufv l).size = l.length := by simp [bufv]
theorem bufv_push (l : List ByteArray) (x : ByteArray) : (bufv l).push (.string x) = bufv (l ++ [x]) := by simp [bufv]
theorem bufv_tail (x : ByteArray) (l : List ByteArray) : (bufv (x :: l)).extract 1 (bufv (x :: l)).size = bufv l := by
  apply Array.toList_inj.1
  simp [bufv, List.take_of_length_le]
theorem bufv_head (x : ByteArray) (l : List ByteArray) : (bufv (x :: l)).getD 0 undef = .string x := by simp [bufv]

/-- a channel that is open, with so much room and these texts -/
def Ch (w : World) (c cap : Nat) (l : List ByteArray) : Prop := ∃ s r, w.heap[c]? = some (.chan cap (bufv l) false s r false)
theorem Ch.lt {w : World} {c cap : Nat} {l : List ByteArray} (h : Ch w c cap l) : c < w.heap.size := let ⟨_, _, h⟩ := h; heap_lt h
theorem Ch.but {S : Nat → Prop} {w w' : World} {c cap : Nat} {l : List ByteArray} (h : Ch w c cap l) (k : But S w w') (hs : ¬ S c) : Ch w' c cap l := let ⟨s, r, h⟩ := h; ⟨s, r, k.at h hs⟩
theorem Ch.kept {w w' : World} {c cap : Nat} {l : List ByteArray} (h : Ch w c cap l) (k : Kept w w') : Ch w' c cap l := let ⟨s, r, h⟩ := h; ⟨s, r, (Below.block k c (heap_lt h)).trans h⟩
theorem Ch.set {w : World} {c : Nat} (h : c < w.heap.size) (cap : Nat) (l : List ByteArray) (s r : Nat) : Ch (w.setChan c cap (bufv l) false s r false) c cap l := ⟨s, r, heap_setChan w c cap (bufv l) false s r false h⟩
theorem but_chan (w : World) (c cap : Nat) (buf : Array Value) (cl : Bool) (s r : Nat) (tm : Bool) : But (fun i => i = c) w (w.setChan c cap buf cl s r tm) :=
  ⟨rfl, rfl, rfl, by simp [World.setChan], fun i _ hn => by simp only [World.setChan]; rw [Array.getElem?_setIfInBounds_ne (Ne.symm hn)]⟩

theorem bytesStr : ∃ i, Try.prog.info? 9 = some i ∧ i.bytes = 16 := by
  have h : (Try.prog.info? 9).map (·.bytes) = some 16 := by kernel_rfl
  obtain ⟨i, hi, hb⟩ := Option.map_eq_some_iff.1 h
  exact ⟨i, hi, hb⟩
theorem make_chan (n : Nat) (hn : n ≤ 256) (w : World) : (Instr.makeChan 52 (.int .i64 n)).run Try.prog w = .ok (.chan (some w.heap.size)) (w.alloc (.chan n #[] false 0 0 false)) := by
  obtain ⟨i, hi, hb⟩ := bytesStr
  simpa using run_makeChan (P := Try.prog) (w := w) Try.underlying52 hi .i64 n (by omega) (by rw [hb]; omega)

/-- the world in which a row was laid down -/
abbrev laid1 (w : World) (c : Nat) : World := w.alloc (.cells #[.chan (some c)] 54)
theorem laid1_at {w : World} {c : Nat} {o : Obj} (h : w.heap[c]? = some o) (d : Nat) : (laid1 w d).heap[c]? = some o := (Below.heap_alloc w _ c (heap_lt h)).trans h

theorem laid1_lt {w : World} {c : Nat} (h : c < w.heap.size) (d : Nat) : c < (laid1 w d).heap.size := by rw [World.size_alloc]; omega
theorem laid1_but (w : World) (c cap : Nat) (l : List ByteArray) (s r : Nat) : But (fun i => i = c) w ((laid1 w c).setChan c cap (bufv l) false s r false) :=
  ((Kept.refl w).alloc _).but.trans (but_chan _ _ _ _ _ _ _ _) fun _ _ h => h

set_option maxRecDepth 100000 in
theorem send_room (c cap : Nat) (l : List ByteArray) (x : ByteArray) (w : World) (h : Ch w c cap l) (hr : l.length < cap) :
    Calls Try.prog 28 #[.agg #[.chan (some c)], .string x] w fun e w' => e = .returned (.bool true) ∧ Ch w' c cap (l ++ [x]) ∧ But (fun i => i = c) w w' := by
  have hlt := h.lt
  obtain ⟨s, r, h⟩ := h
  refine calls_of_loneTo fun cs => ?_
  have e : Frame.enter Try.prog 28 #[.agg #[.chan (some c)], .string x] .normal = (base 28).at ⟨#[.agg #[.chan (some c)], .string x, undef, undef, undef, undef, undef, undef, undef, undef, undef], []⟩ [.code (Try.f28.body.getD .skip)] := by
    simp [Frame.enter, Frame.at, Try.func28, base, Try.f28]
  rw [e]
  clear e
  refine LoneTo.goes (n := 30) ?_
  simp only [Try.f28, Option.getD_some]
  s_c stepG_seq
  s_reg
  s_op
  s_op
  s_c stepG_region_end
  s_c stepG_seq
  s_c stepG_seq
  s_reg
  s_op
  s_op
  s_c stepG_region_end
  s_reg
  s_op
  s_c stepG_region_end
  s_c stepG_seq
  s_reg
  s_stop
  refine LoneTo.step (step_lone_select_send_room (c := c) (cap := cap) (buf := bufv l) (s := s) (r := r) (tm := false) (stepG_comm (cases := #[scase c (.string x) (.string ⟨#[]⟩)]) (blocking := false) (shape := .select) (w' := laid1 w c) rfl rfl (by decide) (by simp [go_sem, execOp, scase, Act.eval])) (laid1_at h c) (by rw [bufv_size]; exact hr)) ?_
  rw [Frame.finish_at, bufv_push]
  walk_nrm
  refine LoneTo.goes (n := 30) ?_
  s_op
  s_op
  s_c stepG_region_end
  s_c stepG_block
  s_cond true
  s_c stepG_seq
  s_reg
  s_op
  s_c stepG_region_end
  s_c stepG_ret'
  s_stop
  refine LoneTo.done ⟨.returned (.bool true), _, rfl, ⟨rfl, ?_⟩, rfl, rfl, rfl, rfl, _, Try.func28, by simp [results, Try.f28, Frame.at]⟩
  exact ⟨Ch.set (laid1_lt hlt c) cap _ _ _, laid1_but w c cap _ _ _⟩

set_option maxRecDepth 100000 in
theorem send_full (c cap : Nat) (l : List ByteArray) (x : ByteArray) (w : World) (h : Ch w c cap l) (hr : cap ≤ l.length) :
    Calls Try.prog 28 #[.agg #[.chan (some c)], .string x] w fun e w' => e = .returned (.bool false) ∧ Kept w w' := by
  have hlt := h.lt
  obtain ⟨s, r, h⟩ := h
  refine calls_of_loneTo fun cs => ?_
  have e : Frame.enter Try.prog 28 #[.agg #[.chan (some c)], .string x] .normal = (base 28).at ⟨#[.agg #[.chan (some c)], .string x, undef, undef, undef, undef, undef, undef, undef, undef, undef], []⟩ [.code (Try.f28.body.getD .skip)] := by
    simp [Frame.enter, Frame.at, Try.func28, base, Try.f28]
  rw [e]
  clear e
  refine LoneTo.goes (n := 30) ?_
  simp only [Try.f28, Option.getD_some]
  s_c stepG_seq
  s_reg
  s_op
  s_op
  s_c stepG_region_end
  s_c stepG_seq
  s_c stepG_seq
  s_reg
  s_op
  s_op
  s_c stepG_region_end
  s_reg
  s_op
  s_c stepG_region_end
  s_c stepG_seq
  s_reg
  s_stop
  refine LoneTo.step (step_lone_select_send_full (c := c) (cap := cap) (buf := bufv l) (s := s) (r := r) (tm := false) (stepG_comm (cases := #[scase c (.string x) (.string ⟨#[]⟩)]) (blocking := false) (shape := .select) (w' := laid1 w c) rfl rfl (by decide) (by simp [go_sem, execOp, scase, Act.eval])) (laid1_at h c) (by rw [bufv_size]; exact hr)) ?_
  rw [Frame.finish_at]
  walk_nrm
  refine LoneTo.goes (n := 30) ?_
  s_op
  s_op
  s_c stepG_region_end
  s_c stepG_block
  s_cond false
  s_c stepG_seq
  s_reg
  s_op
  s_c stepG_region_end
  s_c stepG_ret'
  s_stop
  refine LoneTo.done ⟨.returned (.bool false), _, rfl, ⟨rfl, ?_⟩, rfl, rfl, rfl, rfl, _, Try.func28, by simp [results, Try.f28, Frame.at]⟩
  exact (Kept.refl w).alloc _

set_option maxRecDepth 100000 in
theorem recv_some (c cap : Nat) (l : List ByteArray) (x : ByteArray) (w : World) (h : Ch w c cap (x :: l)) :
    Calls Try.prog 30 #[.agg #[.chan (some c)]] w fun e w' => e = .returned (.tuple #[.string x, .bool true]) ∧ Ch w' c cap l ∧ But (fun i => i = c) w w' := by
  have hlt := h.lt
  obtain ⟨s, r, h⟩ := h
  refine calls_of_loneTo fun cs => ?_
  have e : Frame.enter Try.prog 30 #[.agg #[.chan (some c)]] .normal = (base 30).at ⟨#[.agg #[.chan (some c)], undef, undef, undef, undef, undef, undef, undef, undef, undef, undef, undef, undef, undef], []⟩ [.code (Try.f30.body.getD .skip)] := by
    simp [Frame.enter, Frame.at, Try.func30, base, Try.f30]
  rw [e]
  clear e
  refine LoneTo.goes (n := 30) ?_
  simp only [Try.f30, Option.getD_some]
  s_c stepG_seq
  s_reg
  s_op
  s_op
  s_op
  s_c stepG_region_end
  s_c stepG_seq
  s_reg
  s_op
  s_op
  s_c stepG_region_end
  s_c stepG_seq
  s_reg
  s_stop
  refine LoneTo.step (step_lone_select_recv_buf (c := c) (z := .string ⟨#[]⟩) (cap := cap) (buf := bufv (x :: l)) (s := s) (r := r) (tm := false) (stepG_comm (cases := #[rcase c (.string ⟨#[]⟩)]) (blocking := false) (shape := .select) (w' := laid1 w c) rfl rfl (by decide) (by simp [go_sem, execOp, rcase, Act.eval])) (laid1_at h c) (by rw [bufv_size]; exact Nat.succ_pos _)) ?_
  rw [Frame.finish_at, bufv_tail, bufv_head]
  walk_nrm
  refine LoneTo.goes (n := 30) ?_
  s_op
  s_op
  s_c stepG_region_end
  s_c stepG_block
  s_cond true
  s_c stepG_seq
  s_reg
  s_op
  s_op
  s_c stepG_region_end
  s_c stepG_seq
  s_reg
  s_op
  s_op
  s_op
  s_c stepG_region_end
  s_c stepG_ret'
  s_stop
  refine LoneTo.done ⟨.returned (.tuple #[.string x, .bool true]), _, rfl, ⟨rfl, ?_⟩, rfl, rfl, rfl, rfl, _, Try.func30, by simp [results, Try.f30, Frame.at]⟩
  exact ⟨Ch.set (laid1_lt hlt c) cap _ _ _, laid1_but w c cap _ _ _⟩

set_option maxRecDepth 100000 in
theorem recv_none (c cap : Nat) (w : World) (h : Ch w c cap []) :
    Calls Try.prog 30 #[.agg #[.chan (some c)]] w fun e w' => e = .returned (.tuple #[.string ⟨#[]⟩, .bool false]) ∧ Kept w w' := by
  have hlt := h.lt
  obtain ⟨s, r, h⟩ := h
  refine calls_of_loneTo fun cs => ?_
  have e : Frame.enter Try.prog 30 #[.agg #[.chan (some c)]] .normal = (base 30).at ⟨#[.agg #[.chan (some c)], undef, undef, undef, undef, undef, undef, undef, undef, undef, undef, undef, undef, undef], []⟩ [.code (Try.f30.body.getD .skip)] := by
    simp [Frame.enter, Frame.at, Try.func30, base, Try.f30]
  rw [e]
  clear e
  refine LoneTo.goes (n := 30) ?_
  simp only [Try.f30, Option.getD_some]
  s_c stepG_seq
  s_reg
  s_op
  s_op
  s_op
  s_c stepG_region_end
  s_c stepG_seq
  s_reg
  s_op
  s_op
  s_c stepG_region_end
  s_c stepG_seq
  s_reg
  s_stop
  refine LoneTo.step (step_lone_select_default (c := c) (z := .string ⟨#[]⟩) (cap := cap) (s := s) (r := r) (tm := false) (stepG_comm (cases := #[rcase c (.string ⟨#[]⟩)]) (blocking := false) (shape := .select) (w' := laid1 w c) rfl rfl (by decide) (by simp [go_sem, execOp, rcase, Act.eval])) (laid1_at h c)) ?_
  rw [Frame.finish_at]
  walk_nrm
  refine LoneTo.goes (n := 30) ?_
  s_op
  s_op
  s_c stepG_region_end
  s_c stepG_block
  s_cond false
  s_c stepG_seq
  s_reg
  s_op
  s_c stepG_region_end
  s_c stepG_seq
  s_reg
  s_op
  s_op
  s_op
  s_c stepG_region_end
  s_c stepG_ret'
  s_stop
  refine LoneTo.done ⟨.returned (.tuple #[.string ⟨#[]⟩, .bool false]), _, rfl, ⟨rfl, ?_⟩, rfl, rfl, rfl, rfl, _, Try.func30, by simp [results, Try.f30, Frame.at]⟩
  exact (Kept.refl w).alloc _

set_option maxRecDepth 100000 in
theorem next_any (c cap : Nat) (l : List ByteArray) (x : ByteArray) (w : World) (h : Ch w c cap (x :: l)) (hr : l.length < cap) :
    Calls Try.prog 34 #[.agg #[.chan (some c)]] w fun e w' => e = .returned (.string x) ∧ Ch w' c cap (l ++ [x]) ∧ But (fun i => i = c) w w' := by
  have hlt := h.lt
  obtain ⟨s, r, h⟩ := h
  refine calls_of_loneTo fun cs => ?_
  have e : Frame.enter Try.prog 34 #[.agg #[.chan (some c)]] .normal = (base 34).at ⟨#[.agg #[.chan (some c)], undef, undef, undef, undef, undef, undef, undef, undef, undef, undef], []⟩ [.code (Try.f34.body.getD .skip)] := by
    simp [Frame.enter, Frame.at, Try.func34, base, Try.f34]
  rw [e]
  clear e
  refine LoneTo.goes (n := 30) ?_
  simp only [Try.f34, Option.getD_some]
  s_c stepG_seq
  s_reg
  s_op
  s_op
  s_c stepG_region_end
  s_c stepG_seq
  s_reg
  s_op
  s_op
  s_stop
  refine LoneTo.step (step_lone_recv_buf false (c := c) (z := .string ⟨#[]⟩) (cap := cap) (buf := bufv (x :: l)) (s := s) (r := r) (tm := false) (stepG_comm (cases := #[rcase c (.string ⟨#[]⟩)]) (blocking := true) (shape := .recv false) (w' := laid1 w c) rfl rfl (by decide) (by simp [go_sem, execOp, rcase, Act.eval])) (laid1_at h c) (by rw [bufv_size]; exact Nat.succ_pos _)) ?_
  rw [Frame.finish_at, bufv_tail, bufv_head, show got false (Value.string x) true = Value.string x from rfl]
  walk_nrm
  have hcell : ((laid1 w c).setChan c cap (bufv l) false s (r + 1) false).cell? ⟨w.heap.size, 0, none⟩ = some (.chan (some c)) :=
    ((but_chan (laid1 w c) c cap (bufv l) false s (r + 1) false).cell (p := ⟨w.heap.size, 0, none⟩) (by rw [World.size_alloc]; exact Nat.lt_succ_self _) (Nat.ne_of_gt hlt)).trans (World.cell?_alloc_at _ _ _ _ rfl)
  refine LoneTo.goes (n := 30) ?_
  s_op
  s_c stepG_region_end
  s_c stepG_seq
  s_reg
  s_op
  s_op
  s_op
  s_stop
  refine LoneTo.step (step_lone_send_room (c := c) (v := .string x) (z' := .tuple #[]) (cap := cap) (buf := bufv l) (s := s) (r := r + 1) (tm := false) (stepG_comm (cases := #[scase c (.string x) (.tuple #[])]) (blocking := true) (shape := .send) (w' := (laid1 w c).setChan c cap (bufv l) false s (r + 1) false) rfl rfl (by decide) (by simp [go_sem, execOp, scase, Act.eval])) (heap_setChan _ c cap (bufv l) false s (r + 1) false (laid1_lt hlt c)) (by rw [bufv_size]; exact hr)) ?_
  rw [Frame.finish_at, bufv_push]
  walk_nrm
  refine LoneTo.goes (n := 30) ?_
  s_c stepG_region_end
  s_c stepG_seq
  s_reg
  s_op
  s_op
  s_c stepG_region_end
  s_c stepG_ret'
  s_stop
  refine LoneTo.done ⟨.returned (.string x), _, rfl, ⟨rfl, ?_⟩, rfl, rfl, rfl, rfl, _, Try.func34, by simp [results, Try.f34, Frame.at]⟩
  exact ⟨Ch.set (by rw [size_setChan]; exact laid1_lt hlt c) cap _ _ _, (laid1_but w c cap l _ _).trans (but_chan _ _ _ _ _ _ _ _) fun _ _ h => h⟩
end Go.Proofs.Ytcachpcefeoolaa
