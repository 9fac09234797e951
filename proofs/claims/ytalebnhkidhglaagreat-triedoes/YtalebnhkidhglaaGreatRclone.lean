/-
  The walk of a node's clone.
-/
import Derived.Test.YtalebnhkidhglaaGreatRleave
import Derived.Test.YtalebnhkidhglaaGreatRshelf
import Derived.Deep.RegionHeld3
namespace Go.Proofs.YtalebnhkidhglaaGreat
open Go.ChangeShapes Go.WideShapes Go.ChangeAt Go.RowKit Go.Maps Go.Shelf

/-- a trie set below another's root -/
def graft {α : Type} (M : Path → α) (x : List UInt8) (Mx : Path → α) : Path → α
  | [] => M []
  | y :: r => if y = x then Mx r else M (y :: r)
theorem graft_nil {α : Type} (M : Path → α) (x : List UInt8) (Mx : Path → α) : graft M x Mx [] = M [] := rfl
theorem graft_same {α : Type} (M : Path → α) (x : List UInt8) (Mx : Path → α) (r : Path) : graft M x Mx (x :: r) = Mx r := if_pos rfl
theorem graft_other {α : Type} (M : Path → α) {x y : List UInt8} (Mx : Path → α) (r : Path) (h : y ≠ x) : graft M x Mx (y :: r) = M (y :: r) := if_neg h

theorem TrieAt.graft {w w1 w2 : World} {n kk : Nat} {M Mx : Path → Option Loc} {B Bx : Path → Int → Nat} {m mx : Loc} {x : List UInt8} (hM : TrieAt w n M B) (hm : M [] = some m) (hx : M [x] = none) (k1 : Kept w w1) (hMx : TrieAt w1 n Mx Bx)
    (hnew : ∀ i, Of Mx i → w.heap.size ≤ i) (hmx : Mx [] = some mx) (hg : ∀ q l, Mx q = some l → Good (x :: q)) (hk : KidMap w2 kk m.c (upd (fun y => (M [y]).map Loc.b) x (some mx.b))) (hkk : kk ≤ n) (g : w1.grownBy w2 (some m.c)) :
    TrieAt w2 n (YtalebnhkidhglaaGreat.graft M x Mx) (YtalebnhkidhglaaGreat.graft B x Bx) := by
  have hT1 := hM.kept k1
  have g' := but_grown g
  have mc : m.c < w.heap.size := (hM.node _ _ hm).kids.lt
  have old : ∀ q l, M q = some l → l.b < w.heap.size ∧ l.c < w.heap.size ∧ l.a < w.heap.size := fun r lr hr => ⟨heap_lt (hM.node r lr hr).cells, (hM.node r lr hr).kids.lt, (hM.node r lr hr).asks.lt⟩
  have new : ∀ q l, Mx q = some l → w.heap.size ≤ l.b ∧ w.heap.size ≤ l.c ∧ w.heap.size ≤ l.a := fun q l hq => ⟨hnew _ ⟨q, l, hq, .inl rfl⟩, hnew _ ⟨q, l, hq, .inr (.inl rfl)⟩, hnew _ ⟨q, l, hq, .inr (.inr rfl)⟩⟩
  have hxn : ∀ r, M (x :: r) = none := fun r => hM.none_on r [x] hx
  refine ⟨fun q l hq => ?_, ⟨m, hm⟩, fun q z l hq => ?_, fun q l hq => ?_, fun q hq i => ?_, fun q i => ?_, fun q s l ms hq hs => ?_⟩
  · match q, hq with
    | [], hq =>
      rw [graft_nil, hm] at hq; cases hq
      have hr1 := hT1.node [] m hm
      refine ⟨g'.at hr1.cells (hr1.bc hr1.kids.obj), ?_, hr1.asks.but g' (fun h => (hM.inj [] [] m m hm hm).2.2 h.symm)⟩
      refine (hk.mono hkk).congr fun y => ?_
      by_cases e : y = x
      · subst e; rw [upd_same, List.nil_append, graft_same, hmx]; rfl
      · rw [upd_other _ _ e, List.nil_append, graft_other _ _ _ e]
    | y :: r, hq =>
      by_cases e : y = x
      · subst e
        rw [graft_same] at hq
        have h1 := hMx.node r l hq
        have hn := new r l hq
        have e1 : (fun z => (YtalebnhkidhglaaGreat.graft M y Mx (y :: r ++ [z])).map Loc.b) = fun z => (Mx (r ++ [z])).map Loc.b := funext fun z => by rw [List.cons_append, graft_same]
        rw [e1, graft_same]
        exact h1.but g' (by show l.b ≠ m.c; omega) (by show l.c ≠ m.c; omega) (by show l.a ≠ m.c; omega)
      · rw [graft_other _ _ _ e] at hq
        have h1 := hT1.node _ l hq
        have e1 : (fun z => (YtalebnhkidhglaaGreat.graft M x Mx (y :: r ++ [z])).map Loc.b) = fun z => (M (y :: r ++ [z])).map Loc.b := funext fun z => by rw [List.cons_append, graft_other _ _ _ e]
        rw [e1, graft_other _ _ _ e]
        refine h1.but g' (h1.bc ?_) (fun h => by have := (hM.inj _ _ l m hq hm).1 h; cases this) (fun h => (hM.inj _ _ m l hm hq).2.2 h.symm)
        obtain ⟨es, k, h3⟩ := (hM.node _ _ hm).kids.obj
        exact ⟨es, k, (Below.block k1 _ mc).trans h3⟩
  · match q, hq with
    | [], hq => exact ⟨m, hm⟩
    | y :: r, hq =>
      by_cases e : y = x
      · subst e
        rw [List.cons_append, graft_same] at hq
        obtain ⟨m', hm'⟩ := hMx.up r z l hq
        exact ⟨m', by rw [graft_same]; exact hm'⟩
      · rw [List.cons_append, graft_other _ _ _ e] at hq
        obtain ⟨m', hm'⟩ := hM.up (y :: r) z l hq
        exact ⟨m', by rw [graft_other _ _ _ e]; exact hm'⟩
  · match q, hq with
    | [], hq => exact ⟨by simp, fun x hx => by cases hx⟩
    | y :: r, hq =>
      by_cases e : y = x
      · subst e; rw [graft_same] at hq; exact hg r l hq
      · rw [graft_other _ _ _ e] at hq; exact hM.good _ l hq
  · match q, hq with
    | [], hq => rw [graft_nil, hm] at hq; cases hq
    | y :: r, hq =>
      by_cases e : y = x
      · subst e; rw [graft_same] at hq ⊢; exact hMx.out r hq i
      · rw [graft_other _ _ _ e] at hq ⊢; exact hM.out _ hq i
  · match q with
    | [] => exact hM.few [] i
    | y :: r =>
      by_cases e : y = x
      · subst e; rw [graft_same]; exact hMx.few r i
      · rw [graft_other _ _ _ e]; exact hM.few _ i
  · have part : ∀ q l, YtalebnhkidhglaaGreat.graft M x Mx q = some l → (M q = some l ∧ ∀ r, q ≠ x :: r) ∨ ∃ r, q = x :: r ∧ Mx r = some l := by
      intro q l hq
      match q, hq with
      | [], hq => exact .inl ⟨hq, fun r h => by cases h⟩
      | y :: r, hq =>
        by_cases e : y = x
        · subst e; rw [graft_same] at hq; exact .inr ⟨r, rfl, hq⟩
        · rw [graft_other _ _ _ e] at hq; exact .inl ⟨hq, fun r h => e (by cases h; rfl)⟩
    rcases part q l hq with ⟨h1, _⟩ | ⟨r, rfl, h1⟩ <;> rcases part s ms hs with ⟨h2, _⟩ | ⟨r', rfl, h2⟩
    · exact hM.inj q s l ms h1 h2
    · have a1 := old _ _ h1
      have a2 := new _ _ h2
      exact ⟨fun h => absurd h (by omega), fun h => absurd h (by omega), by omega⟩
    · have a1 := old _ _ h2
      have a2 := new _ _ h1
      exact ⟨fun h => absurd h (by omega), fun h => absurd h (by omega), by omega⟩
    · have := hMx.inj r r' l ms h1 h2
      exact ⟨fun h => by rw [this.1 h], fun h => by rw [this.2.1 h], this.2.2⟩

/-- a node alone is a trie -/
theorem TrieAt.single {w : World} {n : Nat} {m : Loc} {ask : Int → Nat} (h : NodeAt w n m (fun _ => none) ask) (hca : m.c ≠ m.a) (hf : ∀ i, ask i ≤ n) : TrieAt w n (fun q => if q = [] then some m else none) (fun q => if q = [] then ask else fun _ => 0) := by
  refine ⟨fun q l hq => ?_, ⟨m, rfl⟩, fun q z l hq => ?_, fun q l hq => ?_, fun q hq i => ?_, fun q i => ?_, fun q s l ms hq hs => ?_⟩
  · by_cases e : q = []
    · subst e
      simp only [if_true] at hq
      cases hq
      have e1 : (fun x : List UInt8 => ((if ([] : Path) ++ [x] = [] then some m else none)).map Loc.b) = fun _ => none := funext fun x => by simp
      simp only [e1, if_true]
      exact h
    · rw [if_neg e] at hq; cases hq
  · rw [if_neg (by simp)] at hq; cases hq
  · by_cases e : q = []
    · subst e; exact ⟨by simp, fun x hx => by cases hx⟩
    · rw [if_neg e] at hq; cases hq
  · by_cases e : q = []
    · subst e; simp at hq
    · rw [if_neg e]
  · by_cases e : q = []
    · subst e; exact hf i
    · rw [if_neg e]; exact Nat.zero_le _
  · by_cases e : q = []
    · by_cases e2 : s = []
      · subst e e2
        simp only [if_true] at hq hs
        cases hq; cases hs
        exact ⟨fun _ => rfl, fun _ => rfl, hca⟩
      · rw [if_neg e2] at hs; cases hs
    · rw [if_neg e] at hq; cases hq

/-- maps.Copy into a new map -/
theorem copy_any (w : World) (n a b : Nat) (ask : Int → Nat) (ha : AskMap w n a ask) (hb : AskMap w 0 b (fun _ => 0)) (hn : n ≤ 1000000) (hne : b ≠ a) :
    Calls Tryz.prog 44 #[.map (some b), .map (some a)] w fun e w' => e = .returned (.tuple #[]) ∧ AskMap w' n b ask ∧ w.grownBy w' (some b) := by
  obtain ⟨Ds, h1, h2, h3⟩ := ha
  obtain ⟨Dd, k1, k2, k3⟩ := hb
  have hs := h1.size_le
  refine (AnyX.maps_Copy Tryz.copyI lawI _ b a 0 n Dd Ds w k1 h1 hne (by unfold maxLen; omega)).mono ?_
  rintro e w' ⟨rfl, r1, _, r3⟩
  refine ⟨rfl, ⟨Ds, ?_, h2, h3⟩, r3⟩
  have e1 : Ds = Lib.mergeD Dd Ds := by
    refine merged_eq (left := fun _ => false) lawI.one ?_ (fun _ => rfl) (h1.canon lawI) (k1.canonK lawI) (h1.canonK lawI)
    have hd : ∀ k, Maps.has Dd k = false := fun k => size_zero k1.isMap (by have := k1.size_le; omega) k
    refine ⟨fun k => by rw [hd]; simp, fun k z => ?_⟩
    cases hk : Maps.has Ds k
    · simp [atKey_of_not_has hk, atKey_of_not_has (hd k)]
    · simp
  rw [← e1, Nat.zero_add] at r1
  exact r1.mono hs
/-- the paths whose child has come -/
def Dq (left : Lit → Bool) (q : Path) : Prop := q = [] ∨ ∃ x r, q = x :: r ∧ left (.string x) = false
/-- who asks in a copy under way -/
structure Copied (A B : Path → Int → Nat) (p : Path) (left : Lit → Bool) : Prop where
  on : ∀ q, Dq left q → B q = A (p ++ q)
  off : ∀ q, ¬ Dq left q → B q = fun _ => 0
theorem Dq.step {left : Lit → Bool} {x : List UInt8} {q : Path} : Dq (fun z => left z && !z.sameKey (.string x)) q ↔ Dq left q ∨ ∃ r, q = x :: r := by
  constructor
  · rintro (rfl | ⟨y, r, rfl, h⟩)
    · exact .inl (.inl rfl)
    · by_cases e : y = x
      · subst e; exact .inr ⟨r, rfl⟩
      · exact .inl (.inr ⟨y, r, rfl, by simpa [sameKey_str, e] using h⟩)
  · rintro ((rfl | ⟨y, r, rfl, h⟩) | ⟨r, rfl⟩)
    · exact .inl rfl
    · exact .inr ⟨y, r, rfl, by simp [h]⟩
    · exact .inr ⟨x, r, rfl, by simp [sameKey_str]⟩
theorem Copied.join {A B Bx : Path → Int → Nat} {p : Path} {left : Lit → Bool} {x : List UInt8} (h : Copied A B p left) (hx : Bx = fun q => A (p ++ [x] ++ q)) : Copied A (graft B x Bx) p (fun z => left z && !z.sameKey (.string x)) := by
  refine ⟨fun q hq => ?_, fun q hq => ?_⟩
  · match q, hq with
    | [], _ => rw [graft_nil]; exact h.on [] (.inl rfl)
    | y :: r, hq =>
      by_cases e : y = x
      · subst e; rw [graft_same, hx]; simp
      · rw [graft_other _ _ _ e]
        rcases Dq.step.1 hq with h1 | ⟨r', h1⟩
        · exact h.on _ h1
        · exact absurd (by cases h1; rfl) e
  · match q, hq with
    | [], hq => exact absurd (.inl rfl) hq
    | y :: r, hq =>
      by_cases e : y = x
      · subst e; exact absurd (Dq.step.2 (.inr ⟨r, rfl⟩)) hq
      · rw [graft_other _ _ _ e]; exact h.off _ (fun h1 => hq (Dq.step.2 (.inl h1)))
theorem Copied.start {w : World} {n : Nat} {N : Path → Option Loc} {A : Path → Int → Nat} (hT : TrieAt w n N A) {p : Path} {D : DataW Unit} (hD : KidD D (fun x => (N (p ++ [x])).map Loc.b)) : Copied A (fun q => if q = [] then A p else fun _ => 0) p (Maps.has D) := by
  refine ⟨fun q hq => ?_, fun q hq => ?_⟩
  · rcases hq with rfl | ⟨x, r, rfl, h⟩
    · simp
    · rw [hD.1] at h
      have : N (p ++ [x]) = none := by
        cases e : N (p ++ [x]) with
        | none => rfl
        | some l => simp [e] at h
      have := hT.none_on r _ this
      funext i
      rw [if_neg (by simp)]
      exact (hT.out _ (by rw [← this]; simp) i).symm
  · rw [if_neg (fun e => hq (.inl e))]
theorem Copied.done_ {A B : Path → Int → Nat} {p : Path} {left : Lit → Bool} (h : Copied A B p left) (hl : ∀ k, left k = false) : B = fun q => A (p ++ q) := by
  funext q
  cases q with
  | nil => exact h.on [] (.inl rfl)
  | cons x r => exact h.on _ (.inr ⟨x, r, rfl, hl _⟩)

/-- all that clone does -/
def Cloned (A : Path → Int → Nat) (n : Nat) (p : Path) (w : World) (e : Ending) (w' : World) : Prop :=
  ∃ M m, e = .returned (.pointer (some ⟨(m : Loc).b, 0, none⟩)) ∧ M [] = some m ∧ TrieAt w' n M (fun q => A (p ++ q)) ∧ (∀ i, Of M i → w.heap.size ≤ i) ∧ (∀ q l, M q = some l → Good (p ++ q)) ∧ Kept w w'

theorem Of.graft {M Mx : Path → Option Loc} {x : List UInt8} {i : Nat} (h : Of (YtalebnhkidhglaaGreat.graft M x Mx) i) : Of M i ∨ Of Mx i := by
  obtain ⟨q, l, hq, e⟩ := h
  match q, hq with
  | [], hq => exact .inl ⟨[], l, hq, e⟩
  | y :: r, hq =>
    by_cases e1 : y = x
    · subst e1; rw [graft_same] at hq; exact .inr ⟨r, l, hq, e⟩
    · rw [graft_other _ _ _ e1] at hq; exact .inl ⟨_, l, hq, e⟩
theorem Good.back {p q : Path} (h : Good (p ++ q)) : Good q := ⟨by have := h.1; simp at this; omega, fun x hx => h.2 x (by simp [hx])⟩

set_option maxHeartbeats 4000000 in
set_option maxRecDepth 100000 in
theorem nclone_any : ∀ (h : Nat) (w : World) (n : Nat) (_ : n ≤ 1000000) (N : Path → Option Loc) (A : Path → Int → Nat) (_ : TrieAt w n N A) (p : Path) (l : Loc) (_ : N p = some l) (_ : 9 ≤ p.length + h),
    Calls Tryz.prog 23 #[.pointer (some ⟨l.b, 0, none⟩)] w (Cloned A n p w)
  | 0, w, n, hn, N, A, hT, p, l, hp, hh => by
    have := (hT.good p l hp).1
    omega
  | h + 1, w, n, hn, N, A, hT, p, l, hp, hh => by
    have IH := Lib.hid (nclone_any h)
    have HT := Lib.hid hT
    have HP := Lib.hid hp
    clear hT hp
    go_enter Tryz.func23, Tryz.ntmps23
    go_wp2_with fail
    refine (newNode_any _).mono ?_
    rintro e w1 ⟨m, rfl, hm, k1, hb, hc, ha, hca⟩
    have T1 := HT.out.kept k1
    have n1 := T1.node _ _ HP.out
    have c1 := n1.c1
    have m1 := hm.c1
    have hlt : l.a < w.heap.size := (HT.out.node _ _ HP.out).asks.lt
    have cc := fun W (k : Kept w1 W) => copy_any W n l.a m.a _ (n1.asks.but (S := fun _ => False) k.but id) (hm.asks.but (S := fun _ => False) k.but id) hn (by omega)
    have HM := Lib.hid hm
    clear hm n1 T1
    go_wp2_with fail
    go_still_tail 8, (by kernel_rfl)
    change wpList _ _ _ _ _ w1.drew
    have kd : Kept w1 w1.drew := Kept.drew (Kept.refl w1)
    generalize w1.drew = wd at kd ⊢
    go_wp2_with fail
    refine (cc wd kd).mono ?_
    rintro e w2 ⟨rfl, a2, g2⟩
    have b2 := but_grown g2
    have T2 : TrieAt w2 n N A := ((HT.out.kept k1).kept kd).but b2 (fun i hi e => by have := HT.out.lt hi; omega)
    have md := HM.out.but (S := fun _ => False) kd.but id id id
    have n2 : NodeAt w2 n m (fun _ => none) (A p) := ⟨b2.at md.cells (md.bc md.asks.obj), (md.kids.but b2 hca).mono (Nat.zero_le n), a2⟩
    have KM : KidMap w2 0 m.c (fun _ => none) := md.kids.but b2 hca
    have S2 := TrieAt.single n2 hca (HT.out.few p)
    have n3 := T2.node _ _ HP.out
    have c0 := n3.c0
    have K2 : Kept w w2 := But.after k1 ((Kept.but (S := fun i => i = m.a) kd).trans b2 (fun _ _ h => h)) (fun i hi e => by omega)
    obtain ⟨D, hown, hD1⟩ := n3.kids
    have hsz := hown.size_le
    have HKD := Lib.hid hD1
    have HT2 := Lib.hid T2
    have HS2 := Lib.hid S2
    have HKM := Lib.hid KM
    have HK2 := Lib.hid K2
    clear cc a2 g2 b2 T2 md n2 KM S2 n3 hD1 K2 m1 c1
    go_wp2_with (first
      | (at_range; refine wpList_range_own _ rfl _ 60 rfl 9 48 lawS Tryz.underlying60 _ l.c n D rfl hown ?_; intro w3 hrg0 hg0 hs0)
      | go_in)
    try go_frame
    go_loopw [4] (fun _ wr => ∃ (left : Lit → Bool) (cnt kk : Nat) (M : Path → Option Loc) (B : Path → Int → Nat), wr.ranges Tryz.prog 9 kidElem l.c w2.heap.size n D left cnt ∧ TrieAt wr n N A ∧ TrieAt wr n M B ∧ M [] = some m ∧ KidMap wr kk m.c (fun x => (M [x]).map Loc.b) ∧ kk + cnt ≤ n ∧
        Copied A B p left ∧ (∀ x, left (.string x) = true → M [x] = none) ∧ (∀ i, Of M i → w.heap.size ≤ i) ∧ (∀ q l, M q = some l → Good (p ++ q)) ∧ Kept w wr ∧ w2.heap.size < wr.heap.size)
      (fun _ wr => wr.rangeLeft l.c w2.heap.size)
    case atStart =>
      have k0 : Kept w2 w3 := But.kept (S := fun _ => False) ⟨hg0.os, hg0.tape, hg0.output, hg0.size, fun i hi _ => hg0.block i hi (by simp)⟩ (fun _ _ h => h)
      refine ⟨_, _, 0, _, _, hrg0, HT2.out.kept k0, HS2.out.kept k0, rfl, (HKM.out.but (S := fun _ => False) k0.but id).congr (fun x => by simp), by omega, Copied.start HT2.out HKD.out, fun x _ => by simp, fun i hi => ?_, fun q l' hq => ?_, HK2.out.trans k0, by omega⟩
      · obtain ⟨q, l', hq, e⟩ := hi
        by_cases e' : q = []
        · subst e'; simp only [if_true] at hq; cases hq
          rcases e with rfl | rfl | rfl <;> assumption
        · (try dsimp only at hq); rw [if_neg e'] at hq; cases hq
      · by_cases e' : q = []
        · subst e'; rw [List.append_nil]; exact HT.out.good p l HP.out
        · (try dsimp only at hq); rw [if_neg e'] at hq; cases hq
    case round =>
      obtain ⟨left, cnt, kk, M, B, hrg, TN, TM, hMm, hKM, hkk, hCp, hlf, hnew, hgd, hKr, hsr⟩ := hrel
      have hkd2 := (TN.node _ _ HP.out).kids.tie hrg.owns
      have Hrg := Lib.hid hrg
      have HTN := Lib.hid TN
      have HTM := Lib.hid TM
      have HMm := Lib.hid hMm
      have HKMr := Lib.hid hKM
      have HCp := Lib.hid hCp
      have Hlf := Lib.hid hlf
      have Hnew := Lib.hid hnew
      have Hgd := Lib.hid hgd
      have HKr := Lib.hid hKr
      clear TN TM hMm hKM hCp hlf hnew hgd hKr
      go_wp2_with (first
        | (at_next; refine wpList_next_kids _ rfl _ rfl N p l.c w2.heap.size n D left cnt rfl hrg hkd2 ?_ ?_)
        | go_in)
      · intro hl0 _
        go_wp2
        go_ret
        exact ⟨M, m, rfl, HMm.out, by rw [← HCp.out.done_ hl0]; exact HTM.out, Hnew.out, Hgd.out, HKr.out⟩
      · intro x mx w4 cnt4 hxs hlx hmx hrg4 hlt4 hg4 hs4 hen
        have hno := HTN.out.iter_no Hrg.out
        have hno2 := HTM.out.iter_no Hrg.out
        have b4 := but_grown hg4
        have T4 := HTN.out.but b4 (fun j hj e => hno (by subst e; exact hj))
        have U4 := HTM.out.but b4 (fun j hj e => hno2 (by subst e; exact hj))
        have K4 := HKMr.out.but b4 (fun e => hno2 ⟨[], m, HMm.out, .inr (.inl e.symm)⟩)
        have kw4 : Kept w w4 := But.after HKr.out b4 (fun i hi e => by have := HK2.out.size; omega)
        have m0 := (U4.node _ _ HMm.out).c0
        have HT4 := Lib.hid T4
        have HU4 := Lib.hid U4
        have HK4 := Lib.hid K4
        have Hmx := Lib.hid hmx
        have Hrg4 := Lib.hid hrg4
        have Hlx := Lib.hid hlx
        have HW4 := Lib.hid kw4
        clear T4 U4 K4 hmx hrg4 hkd2 hrg hlx kw4 b4 hno hno2
        have ih : ∀ W, Kept w4 W → Calls Tryz.prog 23 #[.pointer (some ⟨mx.b, 0, none⟩)] W (Cloned A n (p ++ [x.data.toList]) W) := fun W k => IH.out W n hn N A (HT4.out.kept k) (p ++ [x.data.toList]) mx Hmx.out (by simp; omega)
        have kd4 : Kept w4 w4.drew := Kept.drew (Kept.refl w4)
        have m0d : w4.drew.cell? ⟨m.b, 0, none⟩ = some (.map (some m.c)) := m0
        have hkm : kk < maxLen := by unfold maxLen; omega
        have HD4 := Lib.hid kd4
        clear kd4
        go_wp2_with fail
        go_region_held3 (fun w' => w'.cell? ⟨m.b, 0, none⟩ = some (.map (some m.c))) (first | exact m0d | exact m0c | exact m0e)
          (first
            | (go_at_call 23; refine (ih _ HD4.out).mono ?_; rintro e w5 ⟨Mx, mm, rfl, hMx0, TMx, hnewx, hgdx, kx⟩
               have K5 := HK4.out.but (S := fun _ => False) (HD4.out.trans kx).but id
               obtain ⟨w6, r6, k6, g6⟩ := K5.put hkm hxs mm.b
               have m0c := ((HU4.out.kept (HD4.out.trans kx)).node _ _ HMm.out).c0
               have m0e := World.grownBy.cell g6 m0c (by have := (HU4.out.node _ _ HMm.out).bc (HU4.out.node _ _ HMm.out).kids.obj; simpa using this)
               have HMx0 := Lib.hid hMx0
               have HTMx := Lib.hid TMx
               have Hnewx := Lib.hid hnewx
               have Hgdx := Lib.hid hgdx
               have Hkx := Lib.hid kx
               have HK6 := Lib.hid k6
               have HG6 := Lib.hid g6
               clear hMx0 TMx hnewx hgdx kx K5 k6 g6))
        have k5 := HD4.out.trans Hkx.out
        have mclt := (HU4.out.node _ _ HMm.out).kids.lt
        go_wp2
        go_roundw
        case rel =>
          have TN6 : TrieAt w6 n N A := (HT4.out.kept k5).but (but_grown HG6.out) (fun j hj e => by have := HT.out.lt hj; have := Hnew.out m.c ⟨[], m, HMm.out, .inr (.inl rfl)⟩; omega)
          have TM6 := HU4.out.graft HMm.out (Hlf.out _ Hlx.out) k5 HTMx.out (fun i hi => by have := Hnewx.out i hi; have := HD4.out.size; omega) HMx0.out (fun q l' hq => by have := Hgdx.out q l' hq; rw [List.append_assoc] at this; exact this.back) HK6.out (by omega) HG6.out
          refine ⟨_, cnt4, kk + 1, _, _, ?_, TN6, TM6, HMm.out, HK6.out.congr (fun y => ?_), by omega, HCp.out.join rfl, fun y hy => ?_, fun i hi => ?_, fun q l' hq => ?_, ?_, ?_⟩
          · exact ranges_but (ranges_but (S := fun _ => False) Hrg4.out k5.but id id) (but_grown HG6.out) (fun e => by have := (HT.out.node _ _ HP.out).kids.lt; have := Hnew.out m.c ⟨[], m, HMm.out, .inr (.inl rfl)⟩; omega) (fun e => HU4.out.iter_no Hrg4.out ⟨[], m, HMm.out, .inr (.inl e)⟩)
          · by_cases e : y = x.data.toList
            · subst e; rw [upd_same, graft_same, HMx0.out]; rfl
            · rw [upd_other _ _ e, graft_other _ _ _ e]
          · have e : y ≠ x.data.toList := fun e => by subst e; simp [sameKey_str] at hy
            rw [graft_other _ _ _ e]
            exact Hlf.out y (by simp [sameKey_str, e] at hy; exact hy)
          · rcases hi.graft with h1 | h1
            · exact Hnew.out i h1
            · have := Hnewx.out i h1
              have := HD4.out.size
              have := HW4.out.size
              omega
          · match q, hq with
            | [], hq => exact Hgd.out [] l' hq
            | y :: r, hq =>
              by_cases e : y = x.data.toList
              · subst e
                rw [graft_same] at hq
                have := Hgdx.out r l' hq
                rwa [List.append_assoc] at this
              · rw [graft_other _ _ _ e] at hq; exact Hgd.out _ l' hq
          · exact But.after (HW4.out.trans k5) (but_grown HG6.out) (fun i hi e => by have := Hnew.out m.c ⟨[], m, HMm.out, .inr (.inl rfl)⟩; omega)
          · have := k5.size
            have := HG6.out.size
            omega
        case measure =>
          have hr6 := ranges_but (ranges_but (S := fun _ => False) Hrg4.out k5.but id id) (but_grown HG6.out) (fun e => by have := (HT.out.node _ _ HP.out).kids.lt; have := Hnew.out m.c ⟨[], m, HMm.out, .inr (.inl rfl)⟩; omega) (fun e => HU4.out.iter_no Hrg4.out ⟨[], m, HMm.out, .inr (.inl e)⟩)
          rw [hr6.left_eq, Hrg.out.left_eq]
          exact hlt4
end Go.Proofs.YtalebnhkidhglaaGreat
