/-
  The filters of a trie in order: the walks of below, slices.Sorted over maps.Keys, and a node's filters.
-/
import Derived.Test.YtalebnhkidhglaaGreatRleave
import Derived.Test.YtalebnhkidhglaaGreatRshelf
import Derived.Test.YtalebnhkidhglaaGreatVclone
import Derived.Maps.AppendAt
namespace Go.Proofs.YtalebnhkidhglaaGreat
open Go.ChangeShapes Go.WideShapes Go.ChangeAt Go.RowKit Go.Maps Go.Shelf Go.Sort

/-- the text of one level more -/
def belowOf (a b : ByteArray) : ByteArray := if a.size = 0 then b else a ++ ⟨#[47]⟩ ++ b

set_option maxHeartbeats 1000000 in
set_option maxRecDepth 100000 in
theorem below_text (a b : ByteArray) (w : World) (ha : a.size ≤ 1000) (hb : b.size ≤ 1000) :
    Calls Tryz.prog 58 #[.string a, .string b] w fun e w' => e = .returned (.string (belowOf a b)) ∧ w' = w := by
  by_cases h0 : a.size = 0
  · obtain rfl : a = ⟨#[]⟩ := ByteArray.ext (Array.eq_empty_of_size_eq_zero h0)
    rw [belowOf, if_pos h0]
    go_enter Tryz.func58, Tryz.ntmps58
    go_wp2
    go_ret
    exact ⟨rfl, rfl⟩
  · rw [belowOf, if_neg h0]
    have hne : a.data.toList ≠ [] := by
      intro e
      apply h0
      have : a.data.size = 0 := by rw [← Array.length_toList, e]; rfl
      exact this
    have e1 : (a.toList == []) = false := by rw [toList_eq, beq_eq_false_iff_ne]; exact hne
    have e2 : (a.toList == (⟨#[]⟩ : ByteArray).toList) = false := by rw [toList_eq, toList_eq, beq_eq_false_iff_ne]; exact hne
    have hs1 : (a ++ (⟨#[47]⟩ : ByteArray)).size = a.size + 1 := by rw [ByteArray.size_append]; rfl
    have hs2 : (a ++ (⟨#[47]⟩ : ByteArray) ++ b).size = a.size + 1 + b.size := by rw [ByteArray.size_append, hs1]
    go_enter Tryz.func58, Tryz.ntmps58
    go_wp2
    go_ret
    exact ⟨rfl, rfl⟩
theorem belowOf_list (a b : ByteArray) (p : Path) (x : List UInt8) (ha : a.data.toList = Tp.join p) (hb : b.data.toList = x) (hp : ∀ y ∈ p, y ≠ []) : (belowOf a b).data.toList = Tp.join (p ++ [x]) := by
  unfold belowOf
  by_cases h0 : a.size = 0
  · rw [if_pos h0, hb]
    have hj : Tp.join p = [] := by
      rw [← ha]
      exact List.eq_nil_of_length_eq_zero (by rw [Array.length_toList]; exact h0)
    have : p = [] := by
      match p, hj, hp with
      | [], _, _ => rfl
      | [y], hj, hp => exact absurd hj (hp y (by simp))
      | y :: z :: r, hj, hp => rw [Tp.join_cons _ _ (by simp)] at hj; simp at hj
    subst this
    rfl
  · rw [if_neg h0]
    have hp0 : p ≠ [] := by
      rintro rfl
      apply h0
      have : a.data.toList.length = 0 := by rw [ha]; rfl
      rw [Array.length_toList] at this
      exact this
    rw [Tp.join_snoc x p hp0, ← ha, ← hb]
    simp [ByteArray.data_append]

theorem bl_lt : ∀ x y : List UInt8, Op.bytesLess x y = true → x < y
  | _, [], h => by simp [Op.bytesLess] at h
  | [], b :: y, _ => List.nil_lt_cons b y
  | a :: x, b :: y, h => by
    rw [bl_cons] at h
    rw [List.cons_lt_cons_iff]
    rcases h with h | ⟨rfl, h⟩
    · exact .inl (UInt8.lt_iff_toNat_lt.2 h)
    · exact .inr ⟨rfl, bl_lt x y h⟩
theorem le_bl {x y : List UInt8} (h : x ≤ y) (hne : x ≠ y) : Op.bytesLess x y = true := by
  rcases bl_total x y hne with ⟨h1, _⟩ | ⟨_, h1⟩
  · exact h1
  · exact absurd (bl_lt y x h1) (List.not_lt.2 h)

theorem keysS_any (mb : Option Nat) (w : World) : Calls Tryz.prog 57 #[.map mb] w fun e w' => e = .returned (.func (.func 84) #[] #[.pointer (some ⟨w.heap.size, 0, none⟩)]) ∧ w' = w.alloc (.cells #[.map mb] 60) :=
  (callsIn_wide (n := 5)).1 (AnyZ.keys_in Tryz.keysS Fence.wide 5 trivial rfl mb w)
theorem sortsS (m : Nat) : AnyZ.SortsIn Tryz.prog Tryz.sortedS_ren Fence.wide m :=
  ⟨fun blk off cap ss W hH hblk hsz => callsIn_wide.2 (AnyM.slices_Sort_string Tryz.sortS blk off cap ss W hH hblk hsz), fun p cap W => callsIn_wide.2 (AnyM.slices_Sort_string_none Tryz.sortS p cap W)⟩

theorem pw_mono {α : Type} {R S : α → α → Prop} : ∀ {l : List α}, l.Pairwise R → (∀ a b, a ∈ l → b ∈ l → R a b → S a b) → l.Pairwise S
  | [], _, _ => List.Pairwise.nil
  | x :: l, h, hs => by
    obtain ⟨h1, h2⟩ := List.pairwise_cons.1 h
    exact List.pairwise_cons.2 ⟨fun y hy => hs x y (by simp) (by simp [hy]) (h1 y hy), pw_mono h2 (fun a b ha hb => hs a b (by simp [ha]) (by simp [hb]))⟩

/-- rows in byte order -/
def Rising (xs : List (List UInt8)) : Prop := xs.Pairwise fun x y => Op.bytesLess x y = true
theorem strKeys_nodup {w : World} {b n : Nat} {D : DataW Unit} (h : w.ownsMap Tryz.prog 9 kidElem b n D) : (strKeys D).Nodup := by
  obtain ⟨es, he, hp, _⟩ := h.entries lawS
  obtain ⟨ms, clock, hb, F, _, hD⟩ := h
  subst he
  have hk : ∀ p ∈ es, ∃ x, p.1 = .string x := by
    intro p hp
    have : p ∈ (ms.toList.map (WideElems.rg Tryz.prog 9 kidElem)).foldr DataW.insert [] := by
      have := DataW.map.inj hD
      rw [← this]; exact hp
    rw [mem_sorted, List.mem_map] at this
    obtain ⟨x, hx, rfl⟩ := this
    obtain ⟨y, hy⟩ := F.reads x hx
    unfold WideElems.rd at hy
    cases hk : keyOf Tryz.prog 9 x.key with
    | none => simp [hk] at hy
    | some kl =>
      obtain ⟨s, _, rfl, _⟩ := keyStr_inv hk
      simp [hk] at hy
      obtain ⟨a, ⟨b, h3⟩, _⟩ := hy
      exact ⟨s.data.toList, by simp [WideElems.rg, WideElems.rd, hk, h3]⟩
  show (es.map fun p => strOf p.1).Nodup
  rw [List.Nodup, List.pairwise_map]
  refine pw_mono hp ?_
  intro p q hp hq hne e
  obtain ⟨x, hx⟩ := hk p hp
  obtain ⟨y, hy⟩ := hk q hq
  rw [hx, hy] at e hne
  exact hne (by rw [show x = y from e])

set_option maxHeartbeats 1000000 in
/-- the levels below a node, in order -/
theorem sorted_any (w : World) (n c : Nat) (kid : List UInt8 → Option Nat) (h : KidMap w n c kid) (hn : n ≤ 1000000) :
    Calls Tryz.prog 56 #[.func (.func 84) #[] #[.pointer (some ⟨w.heap.size, 0, none⟩)]] (w.alloc (.cells #[.map (some c)] 60)) fun e w' => ∃ v ks, e = .returned v ∧ Rising ks ∧ (∀ x, x ∈ ks ↔ (kid x).isSome = true) ∧ OwnS w' (w.heap.size + 1) v ks ∧ Kept w w' := by
  obtain ⟨D, h1, h2, _⟩ := h
  have hs := h1.size_le
  have hseq := (AnyZ.keys_stops (ρ := Tryz.keysS_ren) { Tryz.keysS with } Fence.wide 3 trivial rfl (by omega) w.heap.size c n D (w.alloc (.cells #[.map (some c)] 60)) (by simp) (by simp) (h1.alloc _)).gives
  have cS := AnyZ.sorted_in Tryz.sortedS Fence.wide 6 trivial trivial trivial trivial rfl (by omega) (sortsS _) (enters_of Tryz.func83 (by kernel_rfl) rfl) 84 #[.pointer (some ⟨w.heap.size, 0, none⟩)] trivial (enters_of Tryz.func84 (by kernel_rfl) rfl) _ _ (by unfold maxLen; omega) (by omega) _ hseq
  refine (callsIn_wide.1 cS).mono ?_
  rintro e w' ⟨v, ss, rfl, hS, hrow, _, hB⟩
  have hnd := hS.1.nodup_iff.2 (strKeys_nodup h1)
  have hperm := List.mergeSort_perm ss (fun x y => decide (x ≤ y))
  refine ⟨v, ss.mergeSort (fun x y => decide (x ≤ y)), rfl, ?_, fun x => ?_, ?_, (Kept.alloc (Kept.refl w) _).trans hB⟩
  · have hp := List.pairwise_mergeSort (le := fun x y : List UInt8 => decide (x ≤ y)) (fun a b c h1 h2 => by simp only [decide_eq_true_eq] at *; exact List.le_trans h1 h2) (fun a b => by simp only [Bool.or_eq_true, decide_eq_true_eq]; exact List.le_total a b) ss
    have hn2 := hperm.nodup_iff.2 hnd
    exact pw_mono (hp.and hn2) (fun a b _ _ h => le_bl (by simpa using h.1) h.2)
  · rw [hperm.mem_iff, hS.2, h2]
  · unfold OwnS
    rw [hperm.length_eq]
    simp only [World.size_alloc] at hrow
    exact hrow
end Go.Proofs.YtalebnhkidhglaaGreat
