/-
  The walks of Size and sizeBehind.
-/
import Derived.Test.YtbenjenifklejaaDoorVbase
namespace Go.Proofs.YtbenjenifklejaaDoor
open Go.ChangeShapes Go.WideShapes Go.ChangeAt Go.RowKit

theorem sz_found (n k : Nat) (hk : k < 9) (h : ∀ j, j < k → Vn.vtop j < n) (hn : n ≤ Vn.vtop k) : Vn.vsz n = k + 1 := by
  have h0 := h 0; have h1 := h 1; have h2 := h 2; have h3 := h 3; have h4 := h 4; have h5 := h 5; have h6 := h 6; have h7 := h 7
  match k, hk with
  | 0, _ | 1, _ | 2, _ | 3, _ | 4, _ | 5, _ | 6, _ | 7, _ | 8, _ => simp [Vn.vtop] at h0 h1 h2 h3 h4 h5 h6 h7 hn; simp only [Vn.vsz]; (repeat' split) <;> omega

set_option maxHeartbeats 400000 in
theorem size_any (n : Int) (w : World) (h0 : 0 ≤ n) (h1 : n ≤ 18446744073709551615) (hT : Tab w) :
    Calls Tryd.prog 54 #[.int .u64 n] w fun e w' => e = .returned (.int .i64 (Vn.vsz n.toNat)) ∧ w = w' := by
  go_enter Tryd.func54, Tryd.ntmps54
  go_wp2
  go_loop [3, 4] (fun _ i => ∃ k : Nat, k ≤ 9 ∧ i = .int .i64 k ∧ ∀ j, j < k → Vn.vtop j < n.toNat) (fun _ i => 9 - (intOf i).toNat)
  case atStart => exact ⟨0, Nat.zero_le _, rfl, by omega⟩
  case round =>
    obtain ⟨k, hk, rfl, hlt⟩ := hrel
    have Hlt := Lib.hid hlt
    clear hlt
    by_cases hk9 : k < 9
    · have hc := hT.top k hk9
      by_cases hn : n ≤ (Vn.vtop k : Int)
      · go_wp2
        go_ret
        exact ⟨ret_int (by rw [sz_found n.toNat k hk9 Hlt.out (by omega)]; omega), rfl⟩
      · go_wp2
        go_round
        case rel => exact ⟨k + 1, by omega, by go_num, fun j hj => by
                      by_cases e : j = k
                      · subst e; omega
                      · exact Hlt.out j (by omega)⟩
        case measure => simp [intOf]; omega
    · exfalso
      have := Hlt.out 8 (by omega)
      simp [Vn.vtop] at this
      omega
end Go.Proofs.YtbenjenifklejaaDoor
