/-
  The walk of the law EventMarks.
-/
import Derived.Test.YtbenjenifklejaaDoorElaw
import Derived.Test.YtbenjenifklejaaDoorEref4
namespace Go.Proofs.YtbenjenifklejaaDoor
open Go.ChangeShapes Go.WideShapes Go.ChangeAt Go.RowKit

/-- the calls whose answers the document fixes hold -/
def Fixed : Prop := ∀ W : World, Tab W → P10 W → Calls Tryd.prog 21 #[] W fun e w' => e = .returned (.bool true) ∧ Kept W w'
theorem take40 (ms : List Ev.M) : (min (ms.length : Int) 40).toNat = (ms.take 40).length := by rw [List.length_take]; omega

set_option maxHeartbeats 1000000 in
set_option maxRecDepth 100000 in
theorem marks_walk (av : Option Addr) (cap : Nat) (ms : List Ev.M) (w : World) (h : MkS w av cap ms) (hT : Tab w) (hP : P10 w) (hF : Fixed) :
    Calls Tryd.prog 5 #[.slice av ms.length cap] w fun e w' => e = .returned (.bool true) ∧ Kept w w' := by
  have hm := h.take 40
  have hX := take40 ms
  have c1 := h.cap1
  have c2 := h.cap2
  obtain ⟨n, hn⟩ : ∃ n, n = ms.length := ⟨_, rfl⟩
  rw [← hn] at hX c1 ⊢
  obtain ⟨m, hmm⟩ : ∃ m, m = ms.take 40 := ⟨_, rfl⟩
  rw [← hmm] at hm hX
  have HM := Lib.hid hm
  have HX := Lib.hid hX
  have HT := Lib.hid hT
  have HP := Lib.hid hP
  have HF := Lib.hid hF
  clear hn hmm hm hX hT hP hF h
  go_enter Tryd.func5, Tryd.ntmps5
  go_wp2_with fail
  rw [HX.out]
  refine (sorted_any av cap m w HM.out).mono ?_
  rintro r w1 ⟨rfl, k1⟩
  go_wp2_with fail
  refine (rsorted_any av cap m w1 (HM.out.kept k1)).mono ?_
  rintro r w2 ⟨rfl, k2⟩
  have k02 := k1.trans k2
  obtain ⟨B, hB⟩ : ∃ B, B = Ev.sorted m := ⟨_, rfl⟩
  rw [← hB]
  clear hB k1 k2
  obtain ⟨S, hS, _, _⟩ := name_row (Ev.mput m)
  have HS := Lib.hid hS
  clear hS
  cases B
  all_goals
    go_wp2_with fail
    refine (marks_any av cap m w2 (HM.out.kept k02) (HT.out.kept k02)).mono ?_
    rintro r w3 ⟨rfl, k3⟩
    rw [HS.out]
    have k03 := k02.trans k3
    go_wp2_with fail
    refine (rmarks_any av cap m w3 (HM.out.kept k03)).mono ?_
    rintro r w4 ⟨rfl, k4⟩
    rw [HS.out]
    have k04 := k03.trans k4
    go_wp2_with fail
    refine (HF.out _ (HT.out.kept k04) (HP.out.kept k04)).mono ?_
    rintro r w5 ⟨rfl, k5⟩
    go_wp2
    go_ret
    exact ⟨rfl, k04.trans k5⟩
end Go.Proofs.YtbenjenifklejaaDoor
