/-
  The walks of a box's calls.
-/
import Derived.Test.YtcachpcefeoolaaMbox
namespace Go.Proofs.Ytcachpcefeoolaa
open Go.ChangeShapes Go.WideShapes Go.ChangeAt Go.RowKit

/-- a box: where it lies, its channel, how many it may have, its texts -/
structure Bx (w : World) (b c cap : Nat) (l : List ByteArray) : Prop where
  blk : w.heap[b]? = some (.cells #[.chan (some c)] 57 (0, 0))
  ch : Ch w c cap l
  few : l.length ≤ cap
  room : cap ≤ 256
  small : ∀ x ∈ l, x.size ≤ 281474976710656
theorem Bx.kept {w w' : World} {b c cap : Nat} {l : List ByteArray} (h : Bx w b c cap l) (k : Kept w w') : Bx w' b c cap l := ⟨(Below.block k b (heap_lt h.blk)).trans h.blk, h.ch.kept k, h.few, h.room, h.small⟩
theorem Bx.apart {w : World} {b c cap : Nat} {l : List ByteArray} (h : Bx w b c cap l) {d cap' : Nat} {l' : List ByteArray} (k : Ch w d cap' l') : b ≠ d := by
  rintro rfl
  obtain ⟨s, r, hd⟩ := k
  have := h.blk
  rw [hd] at this
  cases this
theorem Bx.but {w w' : World} {b c cap : Nat} {l : List ByteArray} (h : Bx w b c cap l) {d : Nat} (k : But (fun i => i = d) w w') (h1 : b ≠ d) (h2 : c ≠ d) : Bx w' b c cap l := ⟨k.at h.blk h1, h.ch.but k h2, h.few, h.room, h.small⟩
theorem Bx.turn {w w' : World} {b c cap : Nat} {l l' : List ByteArray} (h : Bx w b c cap l) (k : But (fun i => i = c) w w') (hc : Ch w' c cap l') (hf : l'.length ≤ cap) (hs : ∀ x ∈ l', x.size ≤ 281474976710656) : Bx w' b c cap l' := ⟨k.at h.blk (h.apart h.ch), hc, hf, h.room, hs⟩
theorem Bx.cell {w : World} {b c cap : Nat} {l : List ByteArray} (h : Bx w b c cap l) : w.cell? ⟨b, 0, none⟩ = some (.chan (some c)) := by simp [World.cell?, h.blk]
theorem Bx.head {w : World} {b c cap : Nat} {l : List ByteArray} (h : Bx w b c cap l) : (hd l).size ≤ 281474976710656 := by
  cases l with
  | nil => exact Nat.zero_le _
  | cons x t => exact h.small x (List.mem_cons_self ..)

set_option maxHeartbeats 400000 in
theorem new_bad (n : Int) (w : World) (h : n < 1 ∨ 256 < n) : Calls Try.prog 9 #[.int .i64 n] w fun e w' => e = .returned (.tuple #[.pointer none, .int .i64 1]) ∧ Kept w w' := by
  by_cases h1 : n < 1
  · clear h
    go_enter Try.func9, Try.ntmps9
    go_wp2
    go_ret2
    exact ⟨rfl, Kept.refl _⟩
  · have h2 : 256 < n := by omega
    clear h
    go_enter Try.func9, Try.ntmps9
    go_wp2
    go_ret2
    exact ⟨rfl, Kept.refl _⟩
set_option maxHeartbeats 400000 in
theorem new_ok (m : Nat) (w : World) (h1 : 1 ≤ m) (h2 : m ≤ 256) : Calls Try.prog 9 #[.int .i64 m] w fun e w' =>
    ∃ b c, e = .returned (.tuple #[.pointer (some ⟨b, 0, none⟩), .int .i64 0]) ∧ w.heap.size ≤ b ∧ w.heap.size ≤ c ∧ Bx w' b c m [] ∧ Kept w w' := by
  go_enter Try.func9, Try.ntmps9
  go_wp2_with fail
  refine (newRow_any m (by omega) _).mono ?_
  rintro e w1 ⟨c, rfl, hc, hch, k1⟩
  go_wp2
  go_ret2
  exact ⟨_, c, rfl, k1.size, hc, ⟨heap_alloc_new w1 _, hch.kept ((Kept.refl w1).alloc _), Nat.zero_le _, h2, by simp⟩, k1.alloc _⟩

set_option maxHeartbeats 400000 in
theorem put_room (b c cap : Nat) (l : List ByteArray) (x : ByteArray) (w : World) (h : Bx w b c cap l) (hx : x.size ≤ 281474976710656) (hr : l.length < cap) :
    Calls Try.prog 11 #[.pointer (some ⟨b, 0, none⟩), .string x] w fun e w' => e = .returned (.int .i64 0) ∧ Bx w' b c cap (l ++ [x]) ∧ But (fun i => i = c) w w' := by
  have hc := h.cell
  have H := Lib.hid h
  clear h
  go_enter Try.func11, Try.ntmps11
  go_wp2
  go_region_held3 (fun w' => w'.cell? ⟨b, 0, none⟩ = some (.chan (some c)))
    (first | exact hc | exact (H.out.kept k1).cell | exact B3.cell)
    (first
      | (go_at_call 29; refine (clone_any x _ hx).mono ?_; rintro e w2 ⟨rfl, k2⟩; have k1 : Kept w w2 := (Kept.drew (Kept.refl w)).trans k2)
      | (go_at_call 28; refine (send_room c cap l x _ (H.out.kept k1).ch hr).mono ?_; rintro e w3 ⟨rfl, ch3, b3⟩
         have B3 : Bx w3 b c cap (l ++ [x]) := (H.out.kept k1).turn b3 ch3 (by rw [List.length_append, List.length_singleton]; omega) (by
           intro y hy
           rcases List.mem_append.1 hy with hy | hy
           · exact H.out.small y hy
           · rw [List.mem_singleton.1 hy]; exact hx)))
  have B := Lib.hid B3
  have K := Lib.hid (k1.but.trans b3 fun _ _ h => h)
  clear B3 k1 k2 b3 ch3
  go_wp2
  go_ret
  exact ⟨rfl, B.out, K.out⟩

set_option maxHeartbeats 400000 in
theorem put_full (b c cap : Nat) (l : List ByteArray) (x : ByteArray) (w : World) (h : Bx w b c cap l) (hx : x.size ≤ 281474976710656) (hr : cap ≤ l.length) :
    Calls Try.prog 11 #[.pointer (some ⟨b, 0, none⟩), .string x] w fun e w' => e = .returned (.int .i64 7) ∧ Kept w w' := by
  have hc := h.cell
  have H := Lib.hid h
  clear h
  go_enter Try.func11, Try.ntmps11
  go_wp2
  go_region_held3 (fun w' => w'.cell? ⟨b, 0, none⟩ = some (.chan (some c)))
    (first | exact hc | exact (H.out.kept k1).cell | exact (H.out.kept k3).cell)
    (first
      | (go_at_call 29; refine (clone_any x _ hx).mono ?_; rintro e w2 ⟨rfl, k2⟩; have k1 : Kept w w2 := (Kept.drew (Kept.refl w)).trans k2)
      | (go_at_call 28; refine (send_full c cap l x _ (H.out.kept k1).ch hr).mono ?_; rintro e w3 ⟨rfl, b3⟩; have k3 := k1.trans b3))
  have K := Lib.hid k3
  clear k1 k2 b3 k3
  go_wp2
  go_ret
  exact ⟨rfl, K.out⟩

/-- what Take and First tell -/
def tells (l : List ByteArray) : Value := .tuple #[.string (hd l), .bool (decide (0 < l.length))]
set_option maxHeartbeats 400000 in
theorem take_none (b c cap : Nat) (w : World) (h : Bx w b c cap []) :
    Calls Try.prog 13 #[.pointer (some ⟨b, 0, none⟩)] w fun e w' => e = .returned (.tuple #[.string ⟨#[]⟩, .bool false]) ∧ Kept w w' := by
  have hc := h.cell
  have H := Lib.hid h
  clear h
  go_enter Try.func13, Try.ntmps13
  go_wp2_with fail
  refine (recv_none c cap _ H.out.ch).mono ?_
  rintro e w1 ⟨rfl, k1⟩
  have K1 := Lib.hid k1
  clear k1
  go_wp2_with fail
  refine (clone_any ⟨#[]⟩ _ (Nat.zero_le _)).mono ?_
  rintro e w2 ⟨rfl, k2⟩
  have K2 := Lib.hid (K1.out.trans k2)
  clear k2
  go_wp2
  go_ret2
  exact ⟨rfl, K2.out⟩
set_option maxHeartbeats 400000 in
theorem take_some (b c cap : Nat) (x : ByteArray) (t : List ByteArray) (w : World) (h : Bx w b c cap (x :: t)) :
    Calls Try.prog 13 #[.pointer (some ⟨b, 0, none⟩)] w fun e w' => e = .returned (.tuple #[.string x, .bool true]) ∧ Bx w' b c cap t ∧ But (fun i => i = c) w w' := by
  have hc := h.cell
  have hx : x.size ≤ 281474976710656 := h.head
  have H := Lib.hid h
  clear h
  go_enter Try.func13, Try.ntmps13
  go_wp2_with fail
  refine (recv_some c cap t x _ H.out.ch).mono ?_
  rintro e w1 ⟨rfl, ch1, b1⟩
  have B1 := Lib.hid (H.out.turn b1 ch1 (Nat.le_of_succ_le H.out.few) (fun y hy => H.out.small y (List.mem_cons_of_mem _ hy)))
  have K1 := Lib.hid b1
  clear b1 ch1
  go_wp2_with fail
  refine (clone_any x _ hx).mono ?_
  rintro e w2 ⟨rfl, k2⟩
  have K2 := Lib.hid k2
  clear k2
  go_wp2
  go_ret2
  exact ⟨rfl, B1.out.kept K2.out, K1.out.trans K2.out.but fun _ _ h => h⟩
theorem take_any (b c cap : Nat) (l : List ByteArray) (w : World) (h : Bx w b c cap l) :
    Calls Try.prog 13 #[.pointer (some ⟨b, 0, none⟩)] w fun e w' => e = .returned (tells l) ∧ Bx w' b c cap l.tail ∧ But (fun i => i = c) w w' := by
  cases l with
  | nil => exact (take_none b c cap w h).mono fun e w' ⟨he, hk⟩ => ⟨he, h.kept hk, hk.but⟩
  | cons x t => exact (take_some b c cap x t w h).mono fun e w' ⟨he, hb, hk⟩ => ⟨by rw [he]; simp [tells, hd], hb, hk⟩

set_option maxHeartbeats 400000 in
theorem first_any (b c cap : Nat) (l : List ByteArray) (w : World) (h : Bx w b c cap l) :
    Calls Try.prog 15 #[.pointer (some ⟨b, 0, none⟩)] w fun e w' => e = .returned (tells l) ∧ Bx w' b c cap l ∧ But (fun i => i = c) w w' := by
  have hc := h.cell
  have hs := h.head
  have H := Lib.hid h
  clear h
  have HT : Hid (tells l = .tuple #[.string (hd l), .bool (decide (0 < l.length))]) := rfl
  have CC : Hid (Calls Try.prog 31 #[.agg #[.chan (some c)]] w fun e w' => e = .returned (.tuple #[.string (hd l), .bool (decide (0 < l.length))]) ∧ Ch w' c cap l ∧ But (fun i => i = c) w w') := rfirst_any c cap l w H.out.ch H.out.few H.out.room
  generalize hd l = x at hs HT CC
  generalize decide (0 < l.length) = y at HT CC
  go_enter Try.func15, Try.ntmps15
  go_wp2_with fail
  refine CC.out.mono ?_
  rintro e w1 ⟨rfl, ch1, b1⟩
  have B1 := Lib.hid (H.out.turn b1 ch1 H.out.few H.out.small)
  have K1 := Lib.hid b1
  clear b1 ch1 CC
  go_wp2_with fail
  refine (clone_any x _ hs).mono ?_
  rintro e w2 ⟨rfl, k2⟩
  have K2 := Lib.hid k2
  clear k2
  go_wp2
  go_ret2
  exact ⟨by rw [HT.out]; rfl, B1.out.kept K2.out, K1.out.trans K2.out.but fun _ _ h => h⟩

set_option maxHeartbeats 400000 in
theorem len_any (b c cap : Nat) (l : List ByteArray) (w : World) (h : Bx w b c cap l) :
    Calls Try.prog 24 #[.pointer (some ⟨b, 0, none⟩)] w fun e w' => e = .returned (.int .i64 l.length) ∧ Kept w w' := by
  have hc := h.cell
  have f0 := len_chan h.ch
  clear h
  go_enter Try.func24, Try.ntmps24
  go_wp2
  go_ret
  exact ⟨rfl, Kept.refl w⟩

set_option maxHeartbeats 400000 in
theorem room_any (b c cap : Nat) (l : List ByteArray) (w : World) (h : Bx w b c cap l) :
    Calls Try.prog 25 #[.pointer (some ⟨b, 0, none⟩)] w fun e w' => e = .returned (.int .i64 ((cap : Int) - l.length)) ∧ Kept w w' := by
  have hc := h.cell
  have f0 := fun n => len_chan (h.ch.kept (below_drewN (Kept.refl w) n))
  have f1 := fun n => cap_chan (h.ch.kept (below_drewN (Kept.refl w) n))
  have h1 := h.few
  have h2 := h.room
  clear h
  go_enter Try.func25, Try.ntmps25
  go_wp2
  go_quiet (fail)
  go_wp2
  go_ret
  exact ⟨rfl, below_drewN (Kept.refl w) _⟩
end Go.Proofs.Ytcachpcefeoolaa
