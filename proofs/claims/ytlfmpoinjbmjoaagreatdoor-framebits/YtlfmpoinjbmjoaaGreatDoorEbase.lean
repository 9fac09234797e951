/-
  Events in memory, blocks that are known whole, and the parts that the closure of Get and Cut takes.
-/
import Derived.Test.YtlfmpoinjbmjoaaGreatDoorEmath
import Derived.Test.YtlfmpoinjbmjoaaGreatDoorZbut
import Derived.Lib.SmallJoins
namespace Go.Proofs.YtlfmpoinjbmjoaaGreatDoor
open Go.ChangeShapes Go.WideShapes Go.ChangeAt Go.RowKit

/-- a block whose cells are known -/
def Blk (w : World) (g : Nat) (cs : Array Value) (t : TypeId) : Prop := w.heap[g]? = some (.cells cs t (0, 0))
theorem Blk.lt {w : World} {g : Nat} {cs : Array Value} {t : TypeId} (h : Blk w g cs t) : g < w.heap.size := heap_lt h
theorem Blk.cell {w : World} {g : Nat} {cs : Array Value} {t : TypeId} (h : Blk w g cs t) (i : Nat) : w.cell? ⟨g, i, none⟩ = cs[i]? := by
  unfold Blk at h
  simp [World.cell?, h]
theorem Blk.frozen {w : World} {g : Nat} {cs : Array Value} {t : TypeId} (h : Blk w g cs t) (i : Nat) : w.frozen? ⟨g, i, none⟩ = false := by
  unfold Blk at h
  simp [World.frozen?, h]
theorem Blk.set {w : World} {g : Nat} {cs : Array Value} {t : TypeId} (h : Blk w g cs t) (i : Nat) (v : Value) : Blk (w.setCell ⟨g, i, none⟩ v) g (cs.setIfInBounds i v) t := Joins.block_setCell h v
theorem Blk.but {S : Nat → Prop} {w w' : World} {g : Nat} {cs : Array Value} {t : TypeId} (h : Blk w g cs t) (k : But S w w') (hs : ¬ S g) : Blk w' g cs t := k.at h hs
theorem Blk.kept {w w' : World} {g : Nat} {cs : Array Value} {t : TypeId} (h : Blk w g cs t) (k : Kept w w') : Blk w' g cs t := (Below.block k g h.lt).trans h
theorem Blk.far {w : World} {g : Nat} {cs : Array Value} {t : TypeId} (h : Blk w g cs t) (a : Addr) (v : Value) (hn : g ≠ a.block) : Blk (w.setCell a v) g cs t := (Below.heap_setCell w a v g hn).trans h
theorem Blk.made (w : World) (cs : Array Value) (t : TypeId) : Blk (w.alloc (.cells cs t)) w.heap.size cs t := heap_alloc_new w _
theorem Blk.alloc {w : World} {g : Nat} {cs : Array Value} {t : TypeId} (h : Blk w g cs t) (o : Obj) : Blk (w.alloc o) g cs t := h.kept (Kept.alloc (Kept.refl w) o)
theorem Blk.drewN {w : World} {g : Nat} {cs : Array Value} {t : TypeId} (h : Blk w g cs t) (n : Nat) : Blk (w.drewN n) g cs t := h
theorem but_set (w : World) (g i : Nat) (v : Value) : But (fun j => j = g) w (w.setCell ⟨g, i, none⟩ v) :=
  ⟨rfl, rfl, rfl, by simp [World.setCell], fun j _ hn => Below.heap_setCell w ⟨g, i, none⟩ v j hn⟩
theorem size_set (w : World) (a : Addr) (v : Value) : (w.setCell a v).heap.size = w.heap.size := by simp [World.setCell]

/-- an event as a value -/
def evv (e : Ev.E) : Value := .agg #[.int .i64 e.o, .int .i64 e.s, .string e.t, .string e.l, .int .i64 e.d]
/-- its cells -/
def evc (e : Ev.E) : Array Value := #[.int .i64 e.o, .int .i64 e.s, .string e.t, .string e.l, .int .i64 e.d]
/-- numbers and texts that a machine may hold -/
structure Fit (e : Ev.E) : Prop where
  o0 : -9223372036854775808 ≤ e.o
  o1 : e.o ≤ 9223372036854775807
  s0 : -9223372036854775808 ≤ e.s
  s1 : e.s ≤ 9223372036854775807
  t : e.t.size ≤ 140737488355328
  l : e.l.size ≤ 140737488355328
  d0 : -9223372036854775808 ≤ e.d
  d1 : e.d ≤ 9223372036854775807

/-- a part: what it takes, where its pointer lies, and the cell that it is taken into -/
structure Pt where
  kind : Bool
  pb : Nat
  off : Nat
def Pt.fn (p : Pt) : FuncId := if p.kind then 135 else 148
def Pt.val (p : Pt) : Value := .func (.func p.fn) #[] #[.pointer (some ⟨p.pb, 0, none⟩)]
def itv : Ev.It → Value
  | .n k => .int .i64 (Ev.clip k)
  | .t s => str s

set_option maxHeartbeats 400000 in
theorem number_part (s : ByteArray) (a : Int) (pb g off : Nat) (v0 : Value) (w : World) (hs : s.size ≤ 140737488355328) (h1 : -9223372036854775808 ≤ a) (h2 : a ≤ 9223372036854775807) (hT : Tab w)
    (hp : w.cell? ⟨pb, 0, none⟩ = some (.pointer (some ⟨g, off, none⟩))) (hc : w.cell? ⟨g, off, none⟩ = some v0) (hf : w.frozen? ⟨g, off, none⟩ = false) :
    Calls Tryz.prog 135 #[.string s, .int .i64 a, .pointer (some ⟨pb, 0, none⟩)] w fun e w' =>
      e = .returned (.tuple #[.int .i64 (Ev.iget true s.data.toList a).2.1, .int .i64 (Ev.iget true s.data.toList a).2.2]) ∧ ∃ w1, Kept w w1 ∧ w' = w1.setCell ⟨g, off, none⟩ (itv (Ev.iget true s.data.toList a).1) := by
  have hlt1 := World.block_lt_of_cell? w _ hp
  have hlt2 := World.block_lt_of_cell? w _ hc
  have hg := (vget_le s.data.toList a).1
  rw [Ev.iget_n]
  obtain ⟨⟨n, t, f⟩, hv⟩ : ∃ x, x = vget s.data.toList a := ⟨_, rfl⟩
  rw [← hv] at hg ⊢
  have Hv := Lib.hid hv
  clear hv
  simp only [itv]
  simp only at hg
  have hm : (min (n : Int) 1099511627777) = ((Ev.clip n : Nat) : Int) := by unfold Ev.clip; omega
  have hm2 : Ev.clip n ≤ 1099511627777 := by unfold Ev.clip; omega
  have Hm := Lib.hid hm
  clear hm
  go_enter Tryz.func135, Tryz.ntmps135
  go_wp2_with fail
  refine (get_any s a _ (by unfold maxLen; omega) h1 h2 hT).mono ?_
  rintro e w1 ⟨rfl, k1⟩
  rw [← Hv.out]
  unfold tup
  have c1 : w1.cell? ⟨pb, 0, none⟩ = some (.pointer (some ⟨g, off, none⟩)) := (Below.cell k1 (p := ⟨pb, 0, none⟩) hlt1).trans hp
  have c2 : w1.cell? ⟨g, off, none⟩ = some v0 := (Below.cell k1 (p := ⟨g, off, none⟩) hlt2).trans hc
  have c3 : w1.frozen? ⟨g, off, none⟩ = false := (Below.frozen k1 (p := ⟨g, off, none⟩) hlt2).trans hf
  clear hp hc hf
  have K1 := Lib.hid k1
  clear k1
  go_wp2
  go_ret2
  exact ⟨rfl, w1, K1.out, by rw [Hm.out]⟩

set_option maxHeartbeats 400000 in
theorem text_part (s : ByteArray) (a : Int) (pb g off : Nat) (v0 : Value) (w : World) (hs : s.size ≤ 140737488355328) (h1 : -9223372036854775808 ≤ a) (h2 : a ≤ 9223372036854775807) (hT : Tab w)
    (hp : w.cell? ⟨pb, 0, none⟩ = some (.pointer (some ⟨g, off, none⟩))) (hc : w.cell? ⟨g, off, none⟩ = some v0) (hf : w.frozen? ⟨g, off, none⟩ = false) :
    Calls Tryz.prog 148 #[.string s, .int .i64 a, .pointer (some ⟨pb, 0, none⟩)] w fun e w' =>
      e = .returned (.tuple #[.int .i64 (Ev.iget false s.data.toList a).2.1, .int .i64 (Ev.iget false s.data.toList a).2.2]) ∧ ∃ w1, Kept w w1 ∧ w' = w1.setCell ⟨g, off, none⟩ (itv (Ev.iget false s.data.toList a).1) := by
  have hlt1 := World.block_lt_of_cell? w _ hp
  have hlt2 := World.block_lt_of_cell? w _ hc
  rw [Ev.iget_t]
  obtain ⟨⟨n, t, f⟩, hv⟩ : ∃ x, x = vcut s.data.toList a := ⟨_, rfl⟩
  rw [← hv]
  have Hv := Lib.hid hv
  clear hv
  simp only [itv]
  go_enter Tryz.func148, Tryz.ntmps148
  go_wp2_with fail
  refine (cut_any s a _ hs h1 h2 hT).mono ?_
  rintro e w1 ⟨rfl, k1⟩
  rw [← Hv.out]
  unfold tups
  have c1 : w1.cell? ⟨pb, 0, none⟩ = some (.pointer (some ⟨g, off, none⟩)) := (Below.cell k1 (p := ⟨pb, 0, none⟩) hlt1).trans hp
  have c2 : w1.cell? ⟨g, off, none⟩ = some v0 := (Below.cell k1 (p := ⟨g, off, none⟩) hlt2).trans hc
  have c3 : w1.frozen? ⟨g, off, none⟩ = false := (Below.frozen k1 (p := ⟨g, off, none⟩) hlt2).trans hf
  clear hp hc hf
  have K1 := Lib.hid k1
  clear k1
  simp only
  obtain ⟨q, hq⟩ : ∃ q : ByteArray, str n = .string q := ⟨_, rfl⟩
  rw [hq]
  have Hq := Lib.hid hq
  clear hq
  go_wp2
  go_ret2
  exact ⟨rfl, w1, K1.out, by rw [Hq.out]⟩

theorem part_any (p : Pt) (s : ByteArray) (a : Int) (g : Nat) (v0 : Value) (w : World) (hs : s.size ≤ 140737488355328) (h1 : -9223372036854775808 ≤ a) (h2 : a ≤ 9223372036854775807) (hT : Tab w)
    (hp : w.cell? ⟨p.pb, 0, none⟩ = some (.pointer (some ⟨g, p.off, none⟩))) (hc : w.cell? ⟨g, p.off, none⟩ = some v0) (hf : w.frozen? ⟨g, p.off, none⟩ = false) :
    Calls Tryz.prog p.fn #[.string s, .int .i64 a, .pointer (some ⟨p.pb, 0, none⟩)] w fun e w' =>
      e = .returned (.tuple #[.int .i64 (Ev.iget p.kind s.data.toList a).2.1, .int .i64 (Ev.iget p.kind s.data.toList a).2.2]) ∧ ∃ w1, Kept w w1 ∧ w' = w1.setCell ⟨g, p.off, none⟩ (itv (Ev.iget p.kind s.data.toList a).1) := by
  obtain ⟨k, pb, off⟩ := p
  cases k
  · exact text_part s a pb g off v0 w hs h1 h2 hT hp hc hf
  · exact number_part s a pb g off v0 w hs h1 h2 hT hp hc hf
end Go.Proofs.YtlfmpoinjbmjoaaGreatDoor
