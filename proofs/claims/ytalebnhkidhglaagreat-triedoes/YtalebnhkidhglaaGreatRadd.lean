/-
  The walks of a node's add, prune and drop.
-/
import Derived.Test.YtalebnhkidhglaaGreatRstep
namespace Go.Proofs.YtalebnhkidhglaaGreat
open Go.ChangeShapes Go.WideShapes Go.ChangeAt Go.RowKit Go.Maps

def bump (A : Path → Int → Nat) (q : Path) (i : Int) (c : Nat) : Path → Int → Nat := upd A q (upd (A q) i c)

theorem upd_le {n : Nat} {ask : Int → Nat} {i : Int} {c : Nat} (h : ∀ j, ask j ≤ n) (hc : c ≤ n) (j : Int) : upd ask i c j ≤ n := by
  by_cases e : j = i
  · subst e; rw [upd_same]; exact hc
  · rw [upd_other _ _ e]; exact h j

set_option maxHeartbeats 2000000 in
set_option maxRecDepth 100000 in
theorem add_any (w : World) (n : Nat) (hn : n ≤ 1000000) (N : Path → Option Loc) (A : Path → Int → Nat) (hT : TrieAt w n N A) (p : Path) (l : Loc) (hp : N p = some l) (v : Value) (ls : Path) (hv : Strs w v ls) (hg : ∀ k, k ≤ ls.length → Good (p ++ ls.take k))
    (i : Int) (hi : (Lit.int .i64 i).wf = true) (hl8 : ls.length ≤ 8) :
    Calls Tryz.prog 25 #[.pointer (some ⟨l.b, 0, none⟩), v, .int .i64 i] w fun e w' => e = .returned (.int .i64 (A (p ++ ls) i + 1 : Nat)) ∧ ∃ N', TrieAt w' (n + 9) N' (bump A (p ++ ls) i (A (p ++ ls) i + 1)) ∧ Moves N N' p w w' := by
  obtain ⟨a, cap, rfl, h1, h2, h3⟩ := hv
  unfold maxLen at h2
  have HG := Lib.hid hg
  clear hg
  go_enter Tryz.func25, Tryz.ntmps25
  go_wp2
  go_loopw [0, 13] (fun u j wr => ∃ (k : Nat) (m : Loc) (N1 : Path → Option Loc), k ≤ ls.length ∧ j = .int .i64 k ∧ u = .pointer (some ⟨m.b, 0, none⟩) ∧ N1 (p ++ ls.take k) = some m ∧ TrieAt wr (n + k) N1 A ∧ Moves N N1 p w wr) (fun _ j _ => ls.length - (intOf j).toNat)
  case atStart => exact ⟨0, l, N, Nat.zero_le _, rfl, rfl, by simpa using hp, hT, Moves.refl _ _ _⟩
  case round =>
    obtain ⟨k, m, N1, hk, rfl, rfl, hm, hT1, hM⟩ := hrel
    have Hm := Lib.hid hm
    clear hm
    by_cases hlt : k < ls.length
    · rcases h3 with h3 | ⟨g, off, rfl, hg, hc⟩
      · rw [h3] at hlt; exact absurd hlt (by simp)
      · have HC := Lib.hid hc
        clear hc
        obtain ⟨x, cx0, lx⟩ := strs_at HC.out k hlt
        have hno : ¬ Of N g := hT.cell_no cx0 (fun b e => by cases e)
        have cx : wr.cell? ⟨g, off + k, none⟩ = some (.string x) := (hM.but.cell (p := ⟨g, off + k, none⟩) hg (fun h => hno h.of)).trans cx0
        clear cx0
        rw [toList_eq] at lx
        have Hx := Lib.hid lx
        have Hst : Hid (p ++ ls.take k ++ [x.data.toList] = p ++ ls.take (k + 1)) := by
          show _ = _
          rw [Hx.out, List.append_assoc, List.take_succ_eq_append_getElem hlt]
        have hgd := HG.out (k + 1) hlt
        rw [← Hst.out] at hgd
        have hxs : x.size ≤ maxLen := by
          have := (hgd.2 x.data.toList (by simp)).2.1
          unfold maxLen; simp at this; omega
        clear lx
        have hnode := hT1.node _ _ Hm.out
        have c0 := hnode.c0
        have hlk := hnode.kids.look hxs
        cases hN : N1 (p ++ ls.take k ++ [x.data.toList]) with
        | none =>
          simp only [hN, Option.map_none, Option.isSome_none] at hlk
          have HN := Lib.hid hN
          have HD := Lib.hid hnode
          have HGD := Lib.hid hgd
          clear hN hnode hgd
          go_wp2_with fail
          refine (newNode_any _).mono ?_
          rintro e w1 ⟨l', rfl, hl', k1, hb, hcc, ha, hca⟩
          obtain ⟨w2, r2, k2, g2⟩ := (HD.out.kids.but (S := fun _ => False) k1.but id).put (by unfold maxLen; omega) hxs l'.b
          have c0' := (HD.out.but (S := fun _ => False) k1.but id id id).c0
          obtain ⟨T2, M2⟩ := hT1.plant Hm.out HN.out HGD.out k1 hl' hb hcc ha hca k2 g2
          have HT2 := Lib.hid T2
          have HM2 := Lib.hid M2
          clear T2 M2 k2 g2 hl' k1
          go_wp2
          go_roundw
          case rel => exact ⟨k + 1, l', _, by omega, by go_num, rfl, by rw [← Hst.out]; exact upd_same _ _ _, HT2.out, hM.trans (HM2.out.upto (List.prefix_append _ _))⟩
          case measure => simp [intOf]; omega
        | some m' =>
          simp only [hN, Option.map_some, Option.isSome_some] at hlk
          have HN := Lib.hid hN
          clear hN hnode hgd
          go_wp2
          go_roundw
          case rel => exact ⟨k + 1, m', N1, by omega, by go_num, rfl, by rw [← Hst.out]; exact HN.out, hT1.mono (by omega), hM⟩
          case measure => simp [intOf]; omega
    · have hmm := Hm.out
      rw [List.take_of_length_le (by omega)] at hmm
      have hnode := hT1.node _ _ hmm
      have c1 := hnode.c1
      have hlk := hnode.asks.look hi
      have few := hT1.few (p ++ ls) i
      obtain ⟨w2, r2, k2, g2⟩ := hnode.asks.put (by unfold maxLen; omega) hi (A (p ++ ls) i + 1) (by omega) (by omega)
      have c1' := (World.grownBy.cell g2 c1 (by have := hnode.bc hnode.asks.obj; simpa using this))
      have hlk2 := k2.look hi
      rw [upd_same] at hlk2
      obtain ⟨T2, M2⟩ := hT1.ask hmm (Nat.le_succ _) k2 (upd_le (fun j => Nat.le_succ_of_le (hT1.few _ j)) (by omega)) (but_grown g2)
      have HT2 := Lib.hid T2
      have HM2 := Lib.hid M2
      clear T2 M2 k2 g2 hnode hmm
      have e0 : ((A (p ++ ls) i + 1 : Nat) : Int) = (A (p ++ ls) i : Int) + 1 := by omega
      rw [e0] at r2 hlk2
      clear e0
      go_wp2
      go_ret
      refine ⟨rfl, N1, HT2.out.mono (by omega), hM.trans (HM2.out.upto (List.prefix_append _ _))⟩
end Go.Proofs.YtalebnhkidhglaaGreat
