/-
  Names: the walks of inName and isName.
-/
import Derived.Test.YtbenjenifklejaaDoorTcut
import Derived.Laws.RangeAny
namespace Go.Proofs.YtbenjenifklejaaDoor
open Go.ChangeShapes Go.WideShapes Go.ChangeAt Go.RowKit

namespace Tp
/-- a rune of a name -/
def nr (r : Int) : Bool := (decide (97 ≤ r) && decide (r ≤ 122)) || (decide (48 ≤ r) && decide (r ≤ 57)) || (r == 45) || (r == 95)
theorem nr_byte (c : UInt8) : nr (c.toNat : Int) = nb c := by
  have e1 : (decide ((97 : Int) ≤ c.toNat)) = decide (97 ≤ c.toNat) := by simp; omega
  have e2 : (decide ((c.toNat : Int) ≤ 122)) = decide (c.toNat ≤ 122) := by simp; omega
  have e3 : (decide ((48 : Int) ≤ c.toNat)) = decide (48 ≤ c.toNat) := by simp; omega
  have e4 : (decide ((c.toNat : Int) ≤ 57)) = decide (c.toNat ≤ 57) := by simp; omega
  have e5 : ((c.toNat : Int) == 45) = decide (c.toNat = 45) := by rw [Bool.eq_iff_iff]; simp; omega
  have e6 : ((c.toNat : Int) == 95) = decide (c.toNat = 95) := by rw [Bool.eq_iff_iff]; simp; omega
  rw [nr, nb, e1, e2, e3, e4, e5, e6]
theorem nr_high (r : Int) (h : 128 ≤ r) : nr r = false := by
  have e1 : decide (r ≤ 122) = false := by simp; omega
  have e2 : decide (r ≤ 57) = false := by simp; omega
  have e3 : (r == 45) = false := by simp; omega
  have e4 : (r == 95) = false := by simp; omega
  rw [nr, e1, e2, e3, e4]; simp
theorem nb_high (c : UInt8) (h : 128 ≤ c.toNat) : nb c = false := by rw [← nr_byte, nr_high _ (by omega)]
end Tp

theorem inName_any (r : Int) (w : World) :
    Calls Tryd.prog 68 #[.int .i32 r] w fun e w' => e = .returned (.bool (Tp.nr r)) ∧ w' = w := by
  by_cases h1 : 97 ≤ r <;> by_cases h2 : r ≤ 122 <;> by_cases h3 : 48 ≤ r <;> by_cases h4 : r ≤ 57 <;> by_cases h5 : (r == 45) = true <;> by_cases h6 : (r == 95) = true <;> first
    | (exfalso; simp at h5 h6; omega)
    | (have Hk : Hid (Tp.nr r = ((decide (97 ≤ r) && decide (r ≤ 122)) || (decide (48 ≤ r) && decide (r ≤ 57)) || (r == 45) || (r == 95))) := rfl
       go_enter Tryd.func68, Tryd.ntmps68
       go_wp2
       go_ret
       refine ⟨?_, rfl⟩
       rw [Hk.out]
       simp [h1, h2, h3, h4, h5, h6])

/-- the rune at a byte is of a name just if the byte is -/
theorem rune_nb (s : ByteArray) (k : Nat) (h : k < s.size) : Tp.nr ((Utf8.decode s k).1 : Int) = Tp.nb s[k] ∧ (Tp.nb s[k] = true → (Utf8.decode s k).2 = 1) := by
  by_cases ha : (s[k]'h).toNat < 128
  · rw [decode_ascii s k h ha]
    exact ⟨Tp.nr_byte _, fun _ => rfl⟩
  · have hd := (decode_high s k h (by omega)).1
    rw [Tp.nb_high s[k] (by omega), Tp.nr_high _ (by omega)]
    exact ⟨rfl, fun h => by cases h⟩
theorem byte_at (s : ByteArray) (k : Nat) (h : k < s.size) : s.data.toList[k]? = some s[k] := by
  rw [List.getElem?_eq_getElem (by rw [str_size]; exact h)]
  rfl
theorem all_nb_stop (s : ByteArray) (k : Nat) (h : k < s.size) (hn : Tp.nb s[k] = false) : s.data.toList.all Tp.nb = false := by
  rw [List.all_eq_false]
  exact ⟨s[k], List.mem_of_getElem? (byte_at s k h), by rw [hn]; simp⟩
theorem all_nb_end (s : ByteArray) (h : ∀ j (hj : j < s.size), Tp.nb s[j] = true) : s.data.toList.all Tp.nb = true := by
  rw [List.all_eq_true]
  intro x hx
  obtain ⟨j, hj⟩ := List.getElem?_of_mem hx
  have hlt : j < s.size := by
    rcases Nat.lt_or_ge j s.size with h | h
    · exact h
    · rw [List.getElem?_eq_none (by rw [str_size]; exact h)] at hj; cases hj
  rw [byte_at s j hlt] at hj
  cases hj
  exact h j hlt
theorem iter_kept (w : World) (s : ByteArray) (k : Nat) : Kept w (w.iter s k) := Kept.alloc (Kept.refl w) _

theorem name_by (s : ByteArray) (h1 : 1 ≤ s.size) (h2 : s.size ≤ 16) : Tp.name s.data.toList = s.data.toList.all Tp.nb := by
  rw [Tp.name, str_size, decide_eq_true h1, decide_eq_true h2]; simp
theorem name_short (s : ByteArray) (h : ¬ 1 ≤ s.size) : Tp.name s.data.toList = false := by
  rw [Tp.name, str_size, decide_eq_false h]; simp
theorem name_long (s : ByteArray) (h : ¬ s.size ≤ 16) : Tp.name s.data.toList = false := by
  rw [Tp.name, str_size, decide_eq_false h]; simp

set_option maxHeartbeats 400000 in
theorem isName_any (s : ByteArray) (w : World) :
    Calls Tryd.prog 51 #[.string s] w fun e w' => e = .returned (.bool (Tp.name s.data.toList)) ∧ Kept w w' := by
  by_cases h1 : 1 ≤ s.size
  · by_cases h2 : s.size ≤ 16
    · rw [name_by s h1 h2]
      go_enter Tryd.func51, Tryd.ntmps51
      go_wp2
      go_loopw [] (fun wr => ∃ k, k ≤ s.size ∧ wr = w.iter s k ∧ ∀ j (hj : j < s.size), j < k → Tp.nb s[j] = true) (fun wr => s.size - wr.iterPos w.heap.size)
      case atStart => exact ⟨0, Nat.zero_le _, rfl, fun j _ h => absurd h (Nat.not_lt_zero _)⟩
      case round =>
        obtain ⟨k, hk, rfl, hn⟩ := hrel
        have Hn := Lib.hid hn
        clear hn
        by_cases hp : k < s.size
        · have hnx : ∀ ty, (Instr.next (.pointer (some ⟨w.heap.size, 0, none⟩)) true ty).run Tryd.prog (w.iter s k) = _ := fun ty => run_next_any w s k ty hp
          obtain ⟨hr, hr1⟩ := rune_nb s k hp
          have Hr := Lib.hid hr
          have Hr1 := Lib.hid hr1
          clear hr hr1
          go_wp2_with fail
          refine (inName_any _ _).mono ?_
          rintro e w' ⟨rfl, rfl⟩
          rw [Hr.out]
          cases hb : Tp.nb s[k] with
          | false =>
            have Ha := Lib.hid (all_nb_stop s k hp hb)
            clear hb
            go_wp2
            go_ret
            exact ⟨by rw [Ha.out]; rfl, iter_kept _ _ _⟩
          | true =>
            have hd := Hr1.out hb
            have Hb := Lib.hid hb
            clear hb
            rw [hd]
            clear hd
            go_wp2
            go_roundw
            case rel =>
              refine ⟨k + 1, hp, rfl, fun j hj hjk => ?_⟩
              by_cases e : j = k
              · subst e; exact Hb.out
              · exact Hn.out j hj (by omega)
            case measure => simp; omega
        · have hnx : ∀ ty, (Instr.next (.pointer (some ⟨w.heap.size, 0, none⟩)) true ty).run Tryd.prog (w.iter s k) = _ := fun ty => run_next_end w s k ty hp
          have Ha := Lib.hid (all_nb_end s fun j hj => Hn.out j hj (by omega))
          go_wp2
          go_ret
          exact ⟨by rw [Ha.out]; rfl, iter_kept _ _ _⟩
    · rw [name_long s h2]
      go_enter Tryd.func51, Tryd.ntmps51
      go_wp2
      go_ret
      exact ⟨rfl, Kept.refl _⟩
  · rw [name_short s h1]
    go_enter Tryd.func51, Tryd.ntmps51
    go_wp2
    go_ret
    exact ⟨rfl, Kept.refl _⟩
end Go.Proofs.YtbenjenifklejaaDoor
