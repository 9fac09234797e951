/-
  What a law keeps of a log's calls: states, records, units; and which of them a crash leaves.
-/
import Derived.Test.YtenhncohhikllaaDoorLwcuts
namespace Go.Proofs.YtenhncohhikllaaDoor
open Go.ChangeShapes Go.WideShapes Go.ChangeAt Go.RowKit

namespace Wg
def sts : St → List Act → List (List UInt8)
  | x, [] => [x.st]
  | x, a :: ps => x.st :: sts (x.act a) ps
def rws : St → List Act → List (List (List UInt8))
  | x, [] => [x.l]
  | x, a :: ps => x.l :: rws (x.act a) ps
/-- so many units make each call done -/
def ks : Nat → St → List Act → List Nat
  | _, _, [] => []
  | off, x, a :: ps => (off + key x a) :: ks (off + Dk.total (writes x a)) (x.act a) ps
def idx : List Nat → Nat → Nat
  | [], _ => 0
  | u :: us, n => if u ≤ n then idx us n + 1 else 0
theorem fin_snoc : ∀ (ps : List Act) (x : St) (a : Act), fin x (ps ++ [a]) = (fin x ps).act a
  | [], _, _ => rfl
  | p :: ps, x, a => fin_snoc ps (x.act p) a
theorem allw_snoc : ∀ (ps : List Act) (x : St) (a : Act), allw x (ps ++ [a]) = allw x ps ++ writes (fin x ps) a
  | [], x, a => by show writes x a ++ [] = [] ++ writes x a; simp
  | p :: ps, x, a => by
    show writes x p ++ allw (x.act p) (ps ++ [a]) = (writes x p ++ allw (x.act p) ps) ++ writes (fin (x.act p) ps) a
    rw [allw_snoc ps, List.append_assoc]
theorem sts_snoc : ∀ (ps : List Act) (x : St) (a : Act), sts x (ps ++ [a]) = sts x ps ++ [(fin x (ps ++ [a])).st]
  | [], _, _ => rfl
  | p :: ps, x, a => by
    show x.st :: sts (x.act p) (ps ++ [a]) = (x.st :: sts (x.act p) ps) ++ [(fin (x.act p) (ps ++ [a])).st]
    rw [sts_snoc ps]
    rfl
theorem rws_snoc : ∀ (ps : List Act) (x : St) (a : Act), rws x (ps ++ [a]) = rws x ps ++ [(fin x (ps ++ [a])).l]
  | [], _, _ => rfl
  | p :: ps, x, a => by
    show x.l :: rws (x.act p) (ps ++ [a]) = (x.l :: rws (x.act p) ps) ++ [(fin (x.act p) (ps ++ [a])).l]
    rw [rws_snoc ps]
    rfl
theorem ks_snoc : ∀ (ps : List Act) (off : Nat) (x : St) (a : Act), ks off x (ps ++ [a]) = ks off x ps ++ [off + Dk.total (allw x ps) + key (fin x ps) a]
  | [], off, x, a => by simp [ks, allw, fin, Dk.total]
  | p :: ps, off, x, a => by
    show (off + key x p) :: ks _ (x.act p) (ps ++ [a]) = ((off + key x p) :: ks _ (x.act p) ps) ++ [_]
    rw [ks_snoc ps]
    have e : Dk.total (allw x (p :: ps)) = Dk.total (writes x p) + Dk.total (allw (x.act p) ps) := Dk.total_append _ _
    rw [e, ← Nat.add_assoc]
    rfl
theorem sts_len : ∀ (ps : List Act) (x : St), (sts x ps).length = ps.length + 1
  | [], _ => rfl
  | p :: ps, x => by show (sts (x.act p) ps).length + 1 = _; rw [sts_len ps]; rfl
theorem rws_len : ∀ (ps : List Act) (x : St), (rws x ps).length = ps.length + 1
  | [], _ => rfl
  | p :: ps, x => by show (rws (x.act p) ps).length + 1 = _; rw [rws_len ps]; rfl
theorem ks_len : ∀ (ps : List Act) (off : Nat) (x : St), (ks off x ps).length = ps.length
  | [], _, _ => rfl
  | p :: ps, off, x => by show (ks _ (x.act p) ps).length + 1 = _; rw [ks_len ps]; rfl
theorem idx_le : ∀ (us : List Nat) (n : Nat), idx us n ≤ us.length
  | [], _ => Nat.le_refl _
  | u :: us, n => by
    have := idx_le us n
    unfold idx
    split
    · rw [List.length_cons]; omega
    · exact Nat.zero_le _
theorem idx_none (ps : List Act) (off : Nat) (x : St) (n : Nat) (h : n < off) : idx (ks off x ps) n = 0 := by
  cases ps with
  | nil => rfl
  | cons a ps =>
    unfold ks idx
    rw [if_neg (by omega)]
/-- the log that a crash leaves is the one that the law's search finds -/
theorem idx_last : ∀ (ps : List Act) (off : Nat) (x : St) (n : Nat), off ≤ n → (sts x ps)[idx (ks off x ps) n]? = some (lastAt x ps (n - off)).st ∧ (rws x ps)[idx (ks off x ps) n]? = some (lastAt x ps (n - off)).l
  | [], _, _, _, _ => ⟨rfl, rfl⟩
  | a :: ps, off, x, n, h => by
    unfold ks idx lastAt
    by_cases h1 : off + key x a ≤ n
    · rw [if_pos h1, if_neg (by omega)]
      by_cases h2 : n - off < Dk.total (writes x a)
      · rw [if_pos h2, idx_none ps _ _ _ (by omega)]
        cases ps <;> exact ⟨rfl, rfl⟩
      · rw [if_neg h2]
        have ih := idx_last ps (off + Dk.total (writes x a)) (x.act a) n (by omega)
        rw [show n - (off + Dk.total (writes x a)) = n - off - Dk.total (writes x a) by omega] at ih
        exact ih
    · rw [if_neg h1, if_pos (by omega)]
      exact ⟨rfl, rfl⟩
/-- a log that is not too great -/
structure Ok (x : St) (m : Nat) : Prop where
  r : x.r ≤ m
  n : x.l.length ≤ m
  st : x.st.length ≤ 60
  l : ∀ y ∈ x.l, y.length ≤ 60
def least : Act → Prop
  | .app s => s.length ≤ 60
  | .chk s => s.length ≤ 60
theorem least_few {a : Act} (h : least a) : few a := by
  cases a with
  | app s => show s.length ≤ 65000; have : s.length ≤ 60 := h; omega
  | chk s => show s.length ≤ 65000; have : s.length ≤ 60 := h; omega
theorem Ok.act {x : St} {m : Nat} (h : Ok x m) {a : Act} (ha : least a) : Ok (x.act a) (m + 1) := by
  cases a with
  | app s =>
    refine ⟨Nat.le_succ_of_le h.r, ?_, h.st, fun y hy => ?_⟩
    · show (x.l ++ [s]).length ≤ _
      rw [List.length_append, List.length_singleton]
      have := h.n
      omega
    · rcases List.mem_append.1 hy with hy | hy
      · exact h.l y hy
      · rw [List.mem_singleton.1 hy]; exact ha
  | chk s => exact ⟨Nat.succ_le_succ h.r, Nat.zero_le _, ha, fun y hy => by cases hy⟩
theorem Ok.more {x : St} {m k : Nat} (h : Ok x m) (q : m ≤ k) : Ok x k := ⟨Nat.le_trans h.r q, Nat.le_trans h.n q, h.st, h.l⟩
theorem last_ok : ∀ (ps : List Act) (x : St) (m n : Nat), Ok x m → (∀ a ∈ ps, least a) → Ok (lastAt x ps n) (m + ps.length)
  | [], _, _, _, h, _ => h
  | a :: ps, x, m, n, h, hp => by
    have h1 := h.act (hp a (List.mem_cons_self ..))
    have hl : (a :: ps).length = ps.length + 1 := rfl
    unfold lastAt
    split
    · exact h.more (by omega)
    · split
      · exact h1.more (by omega)
      · exact (last_ok ps (x.act a) (m + 1) _ h1 fun b hb => hp b (List.mem_cons_of_mem _ hb)).more (by omega)
end Wg

theorem rowL : RowTy 50 49 1 24 (.slice none 0 0) := ⟨Tryd.underlying50, by kernel_rfl, rfl, by decide, by decide⟩
theorem rowI : RowTy 51 3 1 8 (.int .i64 0) := ⟨Tryd.underlying51, by kernel_rfl, rfl, by decide, by decide⟩
def ints (U : List Nat) : List Value := U.map fun (u : Nat) => Value.int .i64 (u : Int)
/-- the law's rows: states, records, units -/
structure Hist (w : World) (base : Nat) (lv sv rv uv : Value) (S : List (List UInt8)) (L : List (List (List UInt8))) (U : List Nat) : Prop where
  sts : Tx w base sv S
  ap : RApart lv sv
  rows : ∃ vals : List Value, OffV 49 1 w base rv L.length vals ∧ ∀ (i : Nat) (v : Value) (l : List (List UInt8)), vals[i]? = some v → L[i]? = some l → Tx w base v l ∧ RApart lv v ∧ RApart sv v
  uns : OffV 3 1 w base uv U.length (ints U)
theorem Hist.kept {w w' : World} {base : Nat} {lv sv rv uv : Value} {S : List (List UInt8)} {L : List (List (List UInt8))} {U : List Nat} (h : Hist w base lv sv rv uv S L U) (k : Kept w w') : Hist w' base lv sv rv uv S L U := by
  obtain ⟨vals, h1, h2⟩ := h.rows
  exact ⟨h.sts.kept k, h.ap, ⟨vals, OffV.kept h1 k, fun i v l e1 e2 => ⟨(h2 i v l e1 e2).1.kept k, (h2 i v l e1 e2).2⟩⟩, OffV.kept h.uns k⟩
/-- the log was written -/
theorem Hist.log {w w' : World} {base b d : Nat} {K : Dk.Fl} {v : Value} {ws : List Dk.W} {x : Wg.St} {lv lv' : Value} {sure : Nat} {sv rv uv : Value} {S : List (List UInt8)} {L : List (List (List UInt8))} {U : List Nat} (h : Hist w base lv sv rv uv S L U)
    (o : LD w base b d K v ws x lv sure) (f : But (LS b d v lv) w w') (g : RWent w lv lv') : Hist w' base lv' sv rv uv S L U := by
  obtain ⟨vals, h1, h2⟩ := h.rows
  refine ⟨o.tx f h.sts h.ap, h.ap.went g h.sts, ⟨vals, o.off f h1 (by decide) (by decide) (by decide) (by decide), fun i v l e1 e2 => ?_⟩, o.off f h.uns (by decide) (by decide) (by decide) (by decide)⟩
  obtain ⟨t1, t2, t3⟩ := h2 i v l e1 e2
  exact ⟨o.tx f t1 t2, t2.went g t1, t3⟩
/-- rows of different types are not the same block -/
theorem OffV.past {et et' : TypeId} {sz sz' : Nat} {w w' : World} {base base' : Nat} {r u : Value} {n m : Nat} {xs ys : List Value} (h : OffV et sz w base r n xs) (o : OffV et' sz' w base' u m ys) (ht : et ≠ et') (f : But (fun i => u.ownBlock = some i) w w') : OffV et sz w' base r n xs :=
  h.but f fun i e1 e2 => by
    obtain ⟨_, cur, hg⟩ := h.blk e1
    obtain ⟨_, cur2, hg2⟩ := o.blk e2
    exact type_ne hg hg2 ht
theorem LD.past {et : TypeId} {sz : Nat} {w w' : World} {base base' b d : Nat} {K : Dk.Fl} {v : Value} {ws : List Dk.W} {x : Wg.St} {lv : Value} {sure : Nat} {u : Value} {m : Nat} {ys : List Value} (h : LD w base b d K v ws x lv sure) (o : OffV et sz w base' u m ys) (h1 : et ≠ 68) (h2 : et ≠ 61) (h3 : et ≠ 85) (h4 : et ≠ 9) (f : But (fun i => u.ownBlock = some i) w w') : LD w' base b d K v ws x lv sure := by
  have hn : ∀ i, u.ownBlock = some i → ¬ LS b d v lv i := fun i e => by
    obtain ⟨_, cur, hg⟩ := o.blk e
    exact h.not hg h1 h2 h3 h4
  exact ⟨h.dsk.but f (fun e => hn d e (.inr (.inl rfl))) fun i e1 e2 => hn i e2 (.inr (.inr (.inl e1))), h.log.but f (fun e => hn b e (.inl rfl)) fun i e1 e2 => hn i e2 (.inr (.inr (.inr e1))), h.ap⟩
/-- a state more -/
theorem Hist.addS {w w' : World} {base b d : Nat} {K : Dk.Fl} {v : Value} {ws : List Dk.W} {x : Wg.St} {lv : Value} {sure : Nat} {sv sv' rv uv : Value} {S : List (List UInt8)} {L : List (List (List UInt8))} {U : List Nat} (h : Hist w base lv sv rv uv S L U)
    (o : LD w base b d K v ws x lv sure) (s : List UInt8) (o6 : OffV 9 1 w' base sv' (S.length + 1) (S.map str ++ [str s])) (g : RWent w sv sv') (f : But (fun i => sv.ownBlock = some i) w w') : Hist w' base lv sv' rv uv (S ++ [s]) L U ∧ LD w' base b d K v ws x lv sure := by
  obtain ⟨vals, h1, h2⟩ := h.rows
  refine ⟨⟨?_, (h.ap.symm.went g o.log.row).symm, ⟨vals, h1.past h.sts (by decide) f, fun i v l e1 e2 => ?_⟩, h.uns.past h.sts (by decide) f⟩, o.row h.sts h.ap f⟩
  · unfold Tx
    rw [List.length_append, List.map_append]
    exact o6
  · obtain ⟨t1, t2, t3⟩ := h2 i v l e1 e2
    exact ⟨t1.but f fun i e1 e2 => t3 i e2 e1, t2, t3.went g t1⟩
/-- records more -/
theorem Hist.addL {w w' : World} {base b d : Nat} {K : Dk.Fl} {v : Value} {ws : List Dk.W} {x : Wg.St} {lv : Value} {sure : Nat} {sv rv rv' uv : Value} {S : List (List UInt8)} {L : List (List (List UInt8))} {U : List Nat} (h : Hist w base lv sv rv uv S L U)
    (o : LD w base b d K v ws x lv sure) (val : Value) (l : List (List UInt8)) (hv : Tx w base val l) (a1 : RApart lv val) (a2 : RApart sv val) {vals : List Value} (h1 : OffV 49 1 w base rv L.length vals)
    (h2 : ∀ (i : Nat) (v : Value) (l : List (List UInt8)), vals[i]? = some v → L[i]? = some l → Tx w base v l ∧ RApart lv v ∧ RApart sv v) (o6 : OffV 49 1 w' base rv' (L.length + 1) (vals ++ [val])) (f : But (fun i => rv.ownBlock = some i) w w') :
    Hist w' base lv sv rv' uv S (L ++ [l]) U ∧ LD w' base b d K v ws x lv sure := by
  have hlen : vals.length = L.length := by have := h1.1; omega
  refine ⟨⟨OffV.past h.sts h1 (by decide) f, h.ap, ⟨vals ++ [val], by rw [List.length_append]; exact o6, fun i v l' e1 e2 => ?_⟩, h.uns.past h1 (by decide) f⟩, o.past h1 (by decide) (by decide) (by decide) (by decide) f⟩
  by_cases hi : i < vals.length
  · rw [List.getElem?_append_left hi] at e1
    rw [List.getElem?_append_left (by omega)] at e2
    obtain ⟨t1, t2, t3⟩ := h2 i v l' e1 e2
    exact ⟨OffV.past t1 h1 (by decide) f, t2, t3⟩
  · rw [List.getElem?_append_right (by omega)] at e1 e2
    rw [hlen] at e1
    have hz : i - L.length = 0 := by
      have := (List.getElem?_eq_some_iff.1 e1).1
      simp at this
      omega
    rw [hz] at e1 e2
    cases e1
    cases e2
    exact ⟨OffV.past hv h1 (by decide) f, a1, a2⟩
/-- units more -/
theorem Hist.addU {w w' : World} {base b d : Nat} {K : Dk.Fl} {v : Value} {ws : List Dk.W} {x : Wg.St} {lv : Value} {sure : Nat} {sv rv uv uv' : Value} {S : List (List UInt8)} {L : List (List (List UInt8))} {U : List Nat} (h : Hist w base lv sv rv uv S L U)
    (o : LD w base b d K v ws x lv sure) (u : Nat) (o6 : OffV 3 1 w' base uv' (U.length + 1) (ints U ++ [.int .i64 (u : Int)])) (f : But (fun i => uv.ownBlock = some i) w w') : Hist w' base lv sv rv uv' S L (U ++ [u]) ∧ LD w' base b d K v ws x lv sure := by
  obtain ⟨vals, h1, h2⟩ := h.rows
  refine ⟨⟨OffV.past h.sts h.uns (by decide) f, h.ap, ⟨vals, h1.past h.uns (by decide) f, fun i v l e1 e2 => ⟨OffV.past (h2 i v l e1 e2).1 h.uns (by decide) f, (h2 i v l e1 e2).2⟩⟩, ?_⟩, o.past h.uns (by decide) (by decide) (by decide) (by decide) f⟩
  rw [List.length_append]
  unfold ints at o6 ⊢
  rw [List.map_append]
  exact o6
/-- the disk alone was written -/
theorem Hist.disk {w w' : World} {base d : Nat} {K : Dk.Fl} {v : Value} {ws : List Dk.W} {lv sv rv uv : Value} {S : List (List UInt8)} {L : List (List (List UInt8))} {U : List Nat} (h : Hist w base lv sv rv uv S L U) (o : Dsk w base d K v ws) (f : But (fun i => i = d ∨ v.ownBlock = some i) w w') : Hist w' base lv sv rv uv S L U := by
  obtain ⟨vals, h1, h2⟩ := h.rows
  exact ⟨o.tx f h.sts, h.ap, ⟨vals, o.off f h1 (by decide) (by decide), fun i v l e1 e2 => ⟨o.tx f (h2 i v l e1 e2).1, (h2 i v l e1 e2).2⟩⟩, o.off f h.uns (by decide) (by decide)⟩
end Go.Proofs.YtenhncohhikllaaDoor
