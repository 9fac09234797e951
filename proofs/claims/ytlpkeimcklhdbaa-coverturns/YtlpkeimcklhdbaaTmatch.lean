/-
  Whether a filter lets a topic by: the walk of Match.
-/
import Derived.Test.YtlpkeimcklhdbaaTmeet
import Derived.Test.YtlpkeimcklhdbaaTless
import Derived.Test.YtlpkeimcklhdbaaTlevels
namespace Go.Proofs.Ytlpkeimcklhdbaa
open Go.ChangeShapes Go.WideShapes Go.ChangeAt Go.RowKit

theorem match_any (s t : ByteArray) (w : World) (hs : s.size ≤ 281474976710656) (ht : t.size ≤ 281474976710656) :
    Calls Try.prog 37 #[.string s, .string t] w fun e w' => e = .returned (.bool (Tp.match_ s.data.toList t.data.toList)) ∧ Kept w w' := by
  have Hd : Hid (Tp.match_ s.data.toList t.data.toList = (Tp.right t.data.toList && Tp.covers s.data.toList t.data.toList)) := rfl
  go_enter Try.func37, Try.ntmps37
  go_wp2_with fail
  refine (right_any t _ ht).mono ?_
  rintro e w1 ⟨rfl, k1⟩
  cases hr : Tp.right t.data.toList with
  | false =>
    rw [hr] at Hd
    clear hr
    go_wp2_with fail
    go_ret
    exact ⟨by rw [Hd.out]; rfl, k1⟩
  | true =>
    rw [hr] at Hd
    clear hr
    go_wp2_with fail
    refine (covers_any s t _ hs ht).mono ?_
    rintro e w2 ⟨rfl, k2⟩
    go_wp2_with fail
    go_ret
    exact ⟨by rw [Hd.out]; rfl, k1.trans k2⟩
end Go.Proofs.Ytlpkeimcklhdbaa
