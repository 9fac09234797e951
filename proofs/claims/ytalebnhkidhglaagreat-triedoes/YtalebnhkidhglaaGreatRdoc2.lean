/-
  The document's Has, and its numbers in order.
-/
import Derived.Test.YtalebnhkidhglaaGreatRdoc
namespace Go.Proofs.YtalebnhkidhglaaGreat
open Go.ChangeShapes Go.WideShapes Go.ChangeAt Go.RowKit Go.Maps

theorem kept_cell {w w' : World} (k : Kept w w') {g a : Nat} {x : Value} (h : w.cell? ⟨g, a, none⟩ = some x) : w'.cell? ⟨g, a, none⟩ = some x :=
  (Below.cell k (p := ⟨g, a, none⟩) (World.block_lt_of_cell? w _ h)).trans h

set_option maxHeartbeats 2000000 in
set_option maxRecDepth 100000 in
theorem rhas_any (w : World) (base r : Nat) (rs : List AskV) (h : DocAt w base r rs) (A : Path → Int → Nat) (hd : Doc A rs) (f : ByteArray) (i : Int) :
    Calls Tryz.prog 20 #[.pointer (some ⟨r, 0, none⟩), .string f, .int .i64 i] w fun e w' => e = .returned (.int .i64 (A (Tp.lev f.data.toList) i)) ∧ Kept w w' := by
  have cp := rplace_any w base r rs h f i
  obtain ⟨a, cap, hc, ho⟩ := h
  have HO := Lib.hid ho
  have HC := Lib.hid hc
  have HD := Lib.hid hd
  clear ho hc hd
  go_enter Tryz.func20, Tryz.ntmps20
  go_wp2_with fail
  refine cp.mono ?_
  rintro e w1 ⟨k1, ⟨k, hk, rfl, e1, e2⟩ | ⟨rfl, hno⟩⟩
  · obtain ⟨g, p, rfl, hcm, hcl, lp, d0, d1, d2⟩ := HO.out.at hk
    unfold maxLen at hcm
    have hn := HD.out.at_ rs[k] (List.getElem_mem hk)
    rw [e1, e2] at hn
    have s2 := kept_cell k1 d2
    have sr := kept_cell k1 HC.out
    obtain ⟨m, hm⟩ : ∃ m, rs[k].n = m := ⟨_, rfl⟩
    rw [hm] at s2 hn
    have HN := Lib.hid hn
    clear d0 d1 d2 lp hn cp hm e1 e2
    go_wp2
    go_ret
    exact ⟨by rw [HN.out]; rfl, k1⟩
  · have HN := Lib.hid (HD.out.no hno)
    clear cp hno
    go_wp2
    go_ret
    exact ⟨by rw [HN.out]; rfl, k1⟩
end Go.Proofs.YtalebnhkidhglaaGreat
