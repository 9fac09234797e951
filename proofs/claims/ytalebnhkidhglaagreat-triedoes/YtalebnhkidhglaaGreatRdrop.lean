/-
  The walks of a node's prune and drop.
-/
import Derived.Test.YtalebnhkidhglaaGreatRadd
import Derived.StillTailTactics
namespace Go.Proofs.YtalebnhkidhglaaGreat
open Go.ChangeShapes Go.WideShapes Go.ChangeAt Go.RowKit Go.Maps

/-- a child goes, if it is idle -/
def Pruned (w w' : World) (c : Nat) (s : ByteArray) (idle : Prop) : Prop :=
  (idle ∧ ∃ w0 ty, Kept w w0 ∧ (Builtin.delete_ #[60, 9] ty #[.map (some c), .string s]).run Tryz.prog w0 = .ok (.tuple #[]) w') ∨ (¬ idle ∧ Kept w w')

set_option maxHeartbeats 1000000 in
set_option maxRecDepth 100000 in
theorem prune_raw (w : World) (n : Nat) (m l : Loc) (kid kid' : List UInt8 → Option Nat) (ask ask' : Int → Nat) (hm : NodeAt w n m kid ask) (hl : NodeAt w n l kid' ask') (s : ByteArray) (hs : s.size ≤ maxLen) (hk : kid s.data.toList = some l.b) :
    Calls Tryz.prog 48 #[.pointer (some ⟨m.b, 0, none⟩), .string s] w fun e w' => e = .returned (.tuple #[]) ∧ Pruned w w' m.c s ((∀ x, kid' x = none) ∧ ∀ i, ask' i = 0) := by
  have c0 := hm.c0
  have hlk := hm.kids.look1 hs
  simp only [hk, Option.map_some] at hlk
  go_enter Tryz.func48, Tryz.ntmps48
  go_wp2_with fail
  refine (idle_any _ n l kid' ask' hl).mono ?_
  rintro e w1 ⟨⟨r, rfl, hr⟩, k1⟩
  have HR := Lib.hid hr
  clear hr hlk
  cases r
  · go_wp2
    go_end0
    exact ⟨rfl, .inr ⟨fun h => (by cases HR.out.2 h), k1⟩⟩
  · have hm1 := hm.but (S := fun _ => False) k1.but id id id
    have c0' := hm1.c0
    obtain ⟨w2, r2, k2, g2⟩ := hm1.kids.del hs 0
    clear k2 g2 hm1
    go_wp2
    go_end0
    exact ⟨rfl,   .inl ⟨HR.out.1 (by trivial), w1, _, k1, r2⟩⟩

theorem TrieAt.pruned {w w' : World} {n : Nat} {N : Path → Option Loc} {A : Path → Int → Nat} (hT : TrieAt w n N A) {q : Path} {m l : Loc} (hq : N q = some m) {s : ByteArray} (hs : s.size ≤ maxLen) (hx : N (q ++ [s.data.toList]) = some l)
    (h : Pruned w w' m.c s ((∀ x, (N (q ++ [s.data.toList] ++ [x])).map Loc.b = none) ∧ ∀ i, A (q ++ [s.data.toList]) i = 0)) :
    ∃ N', TrieAt w' n N' A ∧ Moves N N' q w w' := by
  rcases h with ⟨⟨h1, h2⟩, w0, ty, k0, hrun⟩ | ⟨_, k⟩
  · have hT0 := hT.kept k0
    obtain ⟨w2, r2, k2, g2⟩ := (hT0.node q m hq).kids.del hs ty
    rw [hrun] at r2
    cases r2
    obtain ⟨T, M⟩ := hT0.cut hq hx (fun y => by simpa using h1 y) h2 k2 (but_grown g2)
    exact ⟨_, T, (Moves.of_kept N q k0).trans M⟩
  · exact ⟨N, hT.kept k, Moves.of_kept N q k⟩

/-- all but the first -/
theorem tail_run (g off k cap : Nat) (h : k + 1 ≤ cap) : ∃ tl, (∀ w, (Instr.slice 40 (.slice (some ⟨g, off, none⟩) (k + 1) cap) (some (.int .i64 1)) none none).run Tryz.prog w = .ok tl w) ∧
    ∀ (w : World) (ls : Path), ls.length = k → cap ≤ maxLen → g < w.heap.size → (∀ i x, ls[i]? = some x → w.cell? ⟨g, off + 1 + i, none⟩ = some (str x)) → Strs w tl ls := by
  have hsz : ∀ w : World, (sizeOf (Tryz.prog.elem 40)).run Tryz.prog w = .ok 1 w := fun w => by kernel_rfl
  refine ⟨sliced (some ⟨g, off, none⟩) 1 (k + 1) cap 1, fun w => ?_, fun w ls hl hc hg hx => ?_⟩
  · rw [run_slice_l (P := Tryz.prog) (w := w) 40 (some ⟨g, off, none⟩) (k + 1) cap (by kernel_rfl) .i64 1 (by omega) (by omega), hsz]
    rfl
  · refine ⟨_, cap - 1, by rw [sliced, hl, Nat.add_sub_cancel], by omega, by omega, ?_⟩
    by_cases e : cap = 1
    · exact .inl (List.eq_nil_of_length_eq_zero (by omega))
    · refine .inr ⟨g, off + 1, ?_, hg, hx⟩
      rw [if_neg e]
      simp [Addr.add]

theorem bump_snoc (p : Path) (x : List UInt8) (ls : Path) : p ++ [x] ++ ls = p ++ x :: ls := by simp

set_option maxHeartbeats 2000000 in
set_option maxRecDepth 100000 in
theorem drop_any : ∀ (ls : Path) (w : World) (n : Nat) (_ : n ≤ 1000000) (N : Path → Option Loc) (A : Path → Int → Nat) (_ : TrieAt w n N A) (p : Path) (l l2 : Loc) (_ : N p = some l) (_ : N (p ++ ls) = some l2) (v : Value) (_ : Strs w v ls)
    (i : Int) (_ : (Lit.int .i64 i).wf = true) (_ : 1 ≤ A (p ++ ls) i),
    Calls Tryz.prog 49 #[.pointer (some ⟨l.b, 0, none⟩), v, .int .i64 i] w fun e w' => e = .returned (.int .i64 (A (p ++ ls) i - 1 : Nat)) ∧ ∃ N', TrieAt w' (n + 1) N' (bump A (p ++ ls) i (A (p ++ ls) i - 1)) ∧ Moves N N' p w w'
  | [], w, n, hn, N, A, hT, p, l, l2, hp, _, v, hv, i, hi, hA => by
    obtain ⟨a, cap, rfl, h1, h2, h3⟩ := hv
    rw [List.append_nil] at hA ⊢
    have hnode := hT.node _ _ hp
    have c1 := hnode.c1
    have hlk := hnode.asks.look hi
    have few := hT.few p i
    obtain ⟨c, hc⟩ : ∃ c, A p i = c + 1 := ⟨A p i - 1, by omega⟩
    rw [hc] at hlk few ⊢
    have e0 : ((c + 1 : Nat) : Int) = (c : Int) + 1 := by omega
    rw [e0] at hlk
    rw [Nat.add_sub_cancel]
    obtain ⟨w2, r2, g2, q2, p2, z2⟩ := hnode.asks.less (by unfold maxLen; omega) hi c (by omega) 0
    have c1' := (World.grownBy.cell g2 c1 (by have := hnode.bc hnode.asks.obj; simpa using this))
    have G2 := Lib.hid g2
    have HT := Lib.hid hT
    have HP := Lib.hid hp
    have HB : Hid (∀ w3, AskMap w3 (n + 1) l.a (upd (A p) i c) → But (fun i => i = l.a) w w3 → ∃ N', TrieAt w3 (n + 1) N' (bump A p i c) ∧ Moves N N' p w w3) := by
      intro w3 k3 b3
      obtain ⟨T2, M2⟩ := hT.ask hp (Nat.le_succ _) k3 (upd_le (fun j => Nat.le_succ_of_le (hT.few _ j)) (by omega)) b3
      exact ⟨N, T2, M2⟩
    clear hT hp hA hnode e0 g2 hc
    by_cases h0 : c = 0
    · subst h0
      obtain ⟨w3, r3, k3, g3⟩ := z2 rfl
      have z0 : ((0 : Nat) : Int) = 0 := rfl
      have z1 : ((0 : Nat) : Int) + 1 = 1 := rfl
      rw [z1] at hlk
      rw [z0] at r2 q2
      clear z0 z1
      have K3 := Lib.hid k3
      have G3 := Lib.hid g3
      clear p2 z2 k3 g3
      go_enter Tryz.func49, Tryz.ntmps49
      go_wp2
      go_ret
      exact ⟨rfl, HB.out w3 K3.out ((but_grown G2.out).trans (but_grown G3.out) (fun _ _ h => h))⟩
    · have k2 := Lib.hid (p2 (by omega))
      clear p2 z2
      have e3 : ((c : Int) == 0) = false := by simp; omega
      go_enter Tryz.func49, Tryz.ntmps49
      go_wp2
      go_ret
      exact ⟨rfl, HB.out w2 k2.out (but_grown G2.out)⟩
  | x :: ls, w, n, hn, N, A, hT, p, l, l2, hp, hp2, v, hv, i, hi, hA => by
    obtain ⟨a, cap, rfl, h1, h2, h3⟩ := hv
    rcases h3 with h3 | ⟨g, off, rfl, hg, hc⟩
    · cases h3
    rw [← bump_snoc] at hA hp2 ⊢
    obtain ⟨l1, hl1⟩ : ∃ l1, N (p ++ [x]) = some l1 := by
      cases e : N (p ++ [x]) with
      | some l1 => exact ⟨l1, rfl⟩
      | none => rw [hT.none_on ls _ e] at hp2; cases hp2
    have hnode := hT.node _ _ hp
    have c0 := hnode.c0
    obtain ⟨s, cs0, ls0⟩ := strs_at hc 0 (by simp)
    rw [toList_eq, List.getElem_cons_zero] at ls0
    subst ls0
    have hss : s.size ≤ maxLen := by
      have := ((hT.good _ _ hl1).2 s.data.toList (by simp)).2.1
      unfold maxLen; simp at this; omega
    have hlk := hnode.kids.look1 hss
    simp only [hl1, Option.map_some] at hlk
    have hlk1 := (hnode.but (S := fun _ => False) (Kept.but (Kept.drew (Kept.refl w))) id id id).kids.look1 hss
    simp only [hl1, Option.map_some] at hlk1
    have hno : ¬ Of N g := hT.cell_no cs0 (fun b e => by cases e)
    simp only [Nat.add_zero] at cs0
    unfold maxLen at h2
    simp only [List.length_cons] at h1 ⊢
    have HC := Lib.hid hc
    have HT := Lib.hid hT
    have HP := Lib.hid hp
    have HL1 := Lib.hid hl1
    have HP2 := Lib.hid hp2
    have HA := Lib.hid hA
    clear hc hT hp hl1 hp2 hA hnode
    go_enter Tryz.func49, Tryz.ntmps49
    obtain ⟨tl, htl, hts⟩ := tail_run g off ls.length cap h1
    have HTS := Lib.hid hts
    clear hts
    go_wp2_with fail
    go_still_tail 11, (by kernel_rfl)
    change wpList _ _ _ _ _ w.drew
    have kd : Kept w w.drew := Kept.drew (Kept.refl w)
    generalize w.drew = wd at kd hlk1 ⊢
    have HST : Hid (Strs wd tl ls) := HTS.out wd ls rfl (by unfold maxLen; omega) (Nat.lt_of_lt_of_le hg kd.size) (fun j y hy => by
      have := HC.out (j + 1) y (by simpa using hy)
      rw [show off + 1 + j = off + (j + 1) by omega, Below.cell kd (p := ⟨g, off + (j + 1), none⟩) hg]
      exact this)
    have ih := drop_any ls wd n hn N A (HT.out.kept kd) (p ++ [s.data.toList]) l1 l2 HL1.out HP2.out tl HST.out i hi HA.out
    go_wp2_with fail
    refine ih.mono ?_
    rintro e w1 ⟨rfl, N1, T1, M1⟩
    clear ih
    have hp1 : N1 p = some l := by
      rw [M1.same p (fun h => by have := h.1.length_le; simp at this; omega)]
      exact HP.out
    have hl11 : N1 (p ++ [s.data.toList]) = some l1 := by
      rw [M1.same _ (fun h => h.2 rfl)]
      exact HL1.out
    have cs1 : w1.cell? ⟨g, off, none⟩ = some (.string s) := (M1.but.cell (p := ⟨g, off, none⟩) (Nat.lt_of_lt_of_le hg kd.size) (fun h => hno h.of)).trans ((Below.cell kd (p := ⟨g, off, none⟩) hg).trans cs0)
    have n1 := T1.node _ _ hp1
    have n2 := T1.node _ _ hl11
    have cpr := prune_raw w1 (n + 1) l l1 _ _ _ _ n1 n2 s hss (by simp [hl11])
    have T1' := Lib.hid T1
    have M1' := Lib.hid M1
    have HP1 := Lib.hid hp1
    have HL11 := Lib.hid hl11
    clear T1 M1 hp1 hl11 n1 n2 hlk hlk1 cs0 c0
    go_wp2_with fail
    refine cpr.mono ?_
    rintro e w2 ⟨rfl, hpr⟩
    obtain ⟨N2, T2, M2⟩ := T1'.out.pruned HP1.out hss HL11.out hpr
    have T2' := Lib.hid T2
    have M2' := Lib.hid M2
    clear T2 M2 cpr hpr
    go_wp2
    go_ret
    exact ⟨by rw [bump_snoc]; rfl, N2, T2'.out, ((Moves.of_kept N p kd).trans M1'.out.up).trans M2'.out⟩
end Go.Proofs.YtalebnhkidhglaaGreat
