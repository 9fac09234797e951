/-
  Filters in order, each once: the walks of order and filters, over slices.SortFunc and slices.Compact.
-/
import Derived.Test.YtlpkeimcklhdbaaOrow
import Derived.Test.YtlpkeimcklhdbaaTless
import Derived.Test.YtlpkeimcklhdbaaOmath
import Derived.Test.YtlpkeimcklhdbaaZdrawn
import Derived.Test.YtlpkeimcklhdbaaRshelf
import Derived.Lib.QuietBelow
import Derived.Lib.OwnBridge
import Derived.Sort.OwnSorted
namespace Go.Proofs.Ytlpkeimcklhdbaa
open Go.ChangeShapes Go.WideShapes Go.ChangeAt Go.RowKit Go.Shelf Go.Sort

def ordc (x y : List UInt8) : Int := if Tp.less x y = true then -1 else if Tp.less y x = true then 1 else 0

set_option maxHeartbeats 400000 in
theorem order_any (a b : ByteArray) (w : World) (ha : a.size ≤ 281474976710656) (hb : b.size ≤ 281474976710656) :
    Calls Try.prog 45 #[.string a, .string b] w fun e w' => e = .returned (.int .i64 (ordc a.data.toList b.data.toList)) ∧ Kept w w' := by
  have Hd : Hid (ordc a.data.toList b.data.toList = if Tp.less a.data.toList b.data.toList = true then -1 else if Tp.less b.data.toList a.data.toList = true then 1 else 0) := rfl
  go_enter Try.func45, Try.ntmps45
  go_wp2_with fail
  refine (less_any a b _ ha hb).mono ?_
  rintro e w1 ⟨rfl, k1⟩
  cases h1 : Tp.less a.data.toList b.data.toList with
  | true =>
    rw [h1] at Hd
    clear h1
    go_wp2_with fail
    go_ret
    exact ⟨by rw [Hd.out]; rfl, k1⟩
  | false =>
    rw [h1] at Hd
    clear h1
    go_wp2_with fail
    refine (less_any b a _ hb ha).mono ?_
    rintro e w2 ⟨rfl, k2⟩
    cases h2 : Tp.less b.data.toList a.data.toList with
    | true =>
      rw [h2] at Hd
      clear h2
      go_wp2_with fail
      go_ret
      exact ⟨by rw [Hd.out]; rfl, k1.trans k2⟩
    | false =>
      rw [h2] at Hd
      clear h2
      go_wp2_with fail
      go_ret
      exact ⟨by rw [Hd.out]; rfl, k1.trans k2⟩

/-- a text of no great length -/
abbrev Txs := { l : List UInt8 // l.length ≤ 1000 }
instance : Inhabited Txs := ⟨⟨[], by simp⟩⟩
def encT (x : Txs) : Value := str x.1
def cmpT (x y : Txs) : Int := ordc x.1 y.1
theorem ltT (x y : Txs) : ltOf cmpT x y = Tp.less x.1 y.1 := by
  unfold ltOf cmpT ordc
  cases h1 : Tp.less x.1 y.1 with
  | true => simp
  | false => cases h2 : Tp.less y.1 x.1 <;> simp
theorem swoT : SWO (ltOf cmpT) where
  irrefl x := by rw [ltT]; exact Tp.less_irrefl _
  trans x y z h1 h2 := by rw [ltT] at *; exact Tp.less_trans h1 h2
  ntrans x y z h1 h2 := by
    rw [ltT] at *
    by_cases e1 : x.1 = y.1
    · rw [e1]; exact h2
    by_cases e2 : y.1 = z.1
    · rw [← e2]; exact h1
    have a1 : Tp.less y.1 x.1 = true := by rcases Tp.less_total e1 with ⟨a, _⟩ | ⟨_, a⟩; rw [h1] at a; cases a; exact a
    have a2 : Tp.less z.1 y.1 = true := by rcases Tp.less_total e2 with ⟨a, _⟩ | ⟨_, a⟩; rw [h2] at a; cases a; exact a
    exact Tp.less_asymm (Tp.less_trans a2 a1)

theorem grown_of_kept {W w' : World} (h : Kept W w') (hd : W.drawn ≤ w'.drawn) : ∃ q os', w' = grow (W.drewN q) os' := by
  obtain ⟨p, hp⟩ := regrown_of_below h
  have e : w'.drawn = p.d := by rw [hp]; rfl
  refine ⟨p.d - W.drawn, p.os, ?_⟩
  rw [hp]
  have : redrawn W p.d = W.drewN (p.d - W.drawn) := by
    unfold redrawn World.drewN
    rw [show W.drawn + (p.d - W.drawn) = p.d by omega]
  rw [this]

theorem cmp_lays (blk off size : Nat) (w : World) : CmpLays1 Try.prog 45 #[] encT cmpT blk off size w := by
  intro m os dk _ x y
  obtain ⟨a, ha, sa, la⟩ := name_str x.1
  obtain ⟨b, hb, sb, lb⟩ := name_str y.1
  have hx := x.2
  have hy := y.2
  have h := Calls.draws (order_any a b (sortWorld encT w blk off m dk os) (by omega) (by omega))
  rw [← ha, ← hb, la, lb] at h
  refine h.mono ?_
  rintro e w' ⟨⟨rfl, k⟩, hd⟩
  exact ⟨rfl, grown_of_kept k (hd ⟨_, rfl⟩)⟩

theorem putRow_val (W : World) (g : Nat) (d : Array Txs) : putRow encT W g 0 d = putRow encStr W g 0 (d.map (·.1)) := by
  unfold putRow putCells
  congr 1
  funext cur
  congr 1
  funext i c
  rw [Array.size_map]
  split
  · rename_i h
    rw [getElem!_pos d _ (by omega), getElem!_pos (d.map (·.1)) _ (by rw [Array.size_map]; omega), Array.getElem_map]
    rfl
  · rfl

theorem sortS_any (base : Nat) (w : World) (hbase : base ≤ w.heap.size) (v : Value) (xs : List (List UInt8)) (h : OwnS w base v xs) (hx : xs.length ≤ 1000000000) (hs : ∀ x ∈ xs, x.length ≤ 1000) :
    Calls Try.prog 44 #[v, .func (.func 45) #[] #[]] w fun e w' => e = .returned (.tuple #[]) ∧ ∃ zs, OwnS w' base v zs ∧ zs.length = xs.length ∧ (∀ x, x ∈ zs ↔ x ∈ xs) ∧ (∀ i j, i < j → j < zs.length → Tp.less (zs.getD j []) (zs.getD i []) = false) ∧ Below base w w' := by
  rcases h.2 with ⟨rfl, h0⟩ | ⟨g, cap, cur, rfl, hb, hg, r1, r2, r3, r4⟩
  · have : xs = [] := List.eq_nil_of_length_eq_zero h0
    subst this
    refine (AnyF.slices_SortFunc_none { Try.sortFuncS with } none 0 _ w).mono ?_
    rintro e w' ⟨rfl, rfl⟩
    exact ⟨rfl, [], h, rfl, fun _ => Iff.rfl, fun i j _ hj => absurd hj (Nat.not_lt_zero _), Below.refl _ _⟩
  · obtain ⟨ts, hts⟩ : ∃ ts : List Txs, ts.map (·.1) = xs := ⟨xs.attach.map fun x => ⟨x.1, hs x.1 x.2⟩, by simp⟩
    have hl : ts.length = xs.length := by rw [← hts]; simp
    have hH : Holds encT w g 0 ts.toArray := by
      intro j hj
      have hj' : j < ts.length := by simpa using hj
      have hv : w.ownsRow base 9 1 (.slice (some ⟨g, 0, none⟩) xs.length cap) xs.length (xs.map str) := h
      have hc := World.ownsRow.cellAt hv j (by omega)
      refine ⟨?_, by simp [World.frozen?, hg]⟩
      rw [Nat.zero_add, hc, List.getElem?_map, List.getElem?_eq_getElem (by omega), getElem!_pos ts.toArray j hj]
      simp only [Option.map_some, List.getElem_toArray, encT]
      congr 2
      subst hts
      simp
    have eg : ∀ args w, (callFunc 45 args).run Try.prog w = .ok (.enter 45 args) w := enters_of Try.func45 (by kernel_rfl) rfl
    have hcon := Any.slices_SortFunc Try.sortFuncS encT (fun _ => rfl) cmpT swoT 45 #[] g 0 cap ts.toArray w eg (cmp_lays g 0 ts.toArray.size w) hH (by
      rcases Nat.lt_or_ge g w.heap.size with h' | h'
      · exact h'
      · rw [Array.getElem?_eq_none h'] at hg; cases hg) (by simp; omega)
    rw [show ts.toArray.size = xs.length by simp [hl]] at hcon
    refine hcon.mono ?_
    rintro e w' ⟨rfl, d', n, os, ⟨p1, _, p3⟩, hs', rfl⟩
    have hd : d'.size = xs.length := by rw [p1]; simp [hl]
    have hmem : ∀ x, x ∈ (d'.map (·.1)).toList ↔ x ∈ xs := by
      intro x
      have e1 : (d'.extract 0 xs.length).toList = d'.toList := by rw [← hd]; simp
      have e2 : (ts.toArray.extract 0 xs.length).toList = ts := by rw [← hl]; simp
      rw [e1, e2] at p3
      rw [Array.toList_map, ← hts, (p3.map _).mem_iff]
    refine ⟨rfl, (d'.map (·.1)).toList, ?_, by simp [hd], hmem, ?_, ?_⟩
    · have := ownsRow_sorted (w := w) (n := n) (os := os) (ts := (d'.map (·.1)).toList) (ss := xs) (by simp [hd]) hb hg r1 r2 r3
      unfold OwnS
      rw [show (d'.map (·.1)).toList.length = xs.length by simp [hd]]
      unfold sortWorld
      rw [putRow_val]
      rw [Array.toArray_toList] at this
      have hl2 : (d'.map (·.1)).toList.length = xs.length := by simp [hd]
      first | exact this | (rw [hl2] at this; exact this)
    · intro i j hij hj
      have hj' : j < d'.size := by simpa using hj
      have := hs' i j (Nat.zero_le _) hij (by omega)
      rw [ltT, getElem!_pos d' j hj', getElem!_pos d' i (by omega)] at this
      simpa [List.getD, hj', show i < d'.size by omega] using this
    · have := (Below.refl base w).grown (grownBy_sorted (w := w) (g := g) (n := n) (os := os) (d'.map (·.1))) hbase (fun j hj => by cases hj; exact hb)
      unfold sortWorld
      rw [putRow_val]
      exact this

theorem compact_ord (d : Array (List UInt8)) (h : ∀ i j, i < j → j < d.size → Tp.less d[j]! d[i]! = false) : ∀ m, m ≤ d.size → Tp.Ord (Lib.compactUpTo d m) ∧ ∀ x, x ∈ Lib.compactUpTo d m ↔ ∃ j, j < m ∧ d[j]! = x
  | 0, _ => by simp [Lib.compactUpTo, Tp.Ord]
  | m + 1, hm => by
    obtain ⟨h1, h2⟩ := compact_ord d h m (by omega)
    rw [Lib.compactUpTo_succ]
    by_cases hk : Lib.keeps d m = true
    · rw [if_pos hk]
      refine ⟨List.pairwise_append.2 ⟨h1, by simp, fun a ha b hb => ?_⟩, fun x => ?_⟩
      · rw [List.mem_singleton] at hb
        subst hb
        obtain ⟨j, hj, rfl⟩ := (h2 a).1 ha
        have hm0 : m ≠ 0 := by omega
        have hne : d[m - 1]! ≠ d[m]! := by
          unfold Lib.keeps at hk
          rcases of_decide_eq_true hk with e | e
          · exact absurd e hm0
          · exact fun q => e q.symm
        have a2 := h (m - 1) m (by omega) (by omega)
        have a3 : Tp.less d[m - 1]! d[m]! = true := by
          rcases Tp.less_total hne with ⟨a, _⟩ | ⟨_, a⟩
          · exact a
          · rw [a2] at a; cases a
        by_cases ej : j = m - 1
        · subst ej; exact a3
        · have a1 := h j (m - 1) (by omega) (by omega)
          by_cases ed : d[j]! = d[m - 1]!
          · rw [ed]; exact a3
          · rcases Tp.less_total ed with ⟨a, _⟩ | ⟨_, a⟩
            · exact Tp.less_trans a a3
            · rw [a1] at a; cases a
      · rw [List.mem_append, h2, List.mem_singleton]
        constructor
        · rintro (⟨j, hj, rfl⟩ | rfl)
          · exact ⟨j, by omega, rfl⟩
          · exact ⟨m, by omega, rfl⟩
        · rintro ⟨j, hj, rfl⟩
          by_cases e : j = m
          · subst e; exact .inr rfl
          · exact .inl ⟨j, by omega, rfl⟩
    · rw [if_neg hk, List.append_nil]
      refine ⟨h1, fun x => ?_⟩
      rw [h2]
      have hk' : ¬ (m = 0 ∨ d[m]! ≠ d[m - 1]!) := by
        intro e; apply hk; unfold Lib.keeps; exact decide_eq_true e
      have hm0 : m ≠ 0 := fun e => hk' (.inl e)
      have he : d[m]! = d[m - 1]! := by
        by_cases e : d[m]! = d[m - 1]!
        · exact e
        · exact absurd (.inr e) hk'
      constructor
      · rintro ⟨j, hj, rfl⟩; exact ⟨j, by omega, rfl⟩
      · rintro ⟨j, hj, rfl⟩
        by_cases e : j = m
        · subst e; exact ⟨j - 1, by omega, he.symm⟩
        · exact ⟨j, by omega, rfl⟩
theorem compact_clean {xs zs ys : List (List UInt8)} (hys : ∀ x, x ∈ ys ↔ x ∈ xs ∧ Tp.filter x = true) (h1 : ∀ x, x ∈ zs ↔ x ∈ ys) (h2 : ∀ i j, i < j → j < zs.length → Tp.less (zs.getD j []) (zs.getD i []) = false) : Lib.compact zs = Tp.clean xs := by
  have hd : ∀ i, i < zs.length → zs.toArray[i]! = zs.getD i [] := fun i hi => by rw [getElem!_pos zs.toArray i (by simpa using hi)]; simp [List.getD, hi]
  obtain ⟨a1, a2⟩ := compact_ord zs.toArray (fun i j hij hj => by
    have hj' : j < zs.length := by simpa using hj
    rw [hd i (by omega), hd j hj']; exact h2 i j hij hj') zs.length (by simp)
  refine Tp.clean_eq a1 fun x => ?_
  show x ∈ Lib.compactUpTo zs.toArray zs.length ↔ _
  rw [a2, ← hys, ← h1]
  constructor
  · rintro ⟨j, hj, rfl⟩
    rw [getElem!_pos zs.toArray j (by simpa using hj)]
    simp
  · intro hx
    obtain ⟨j, hj, rfl⟩ := List.getElem_of_mem hx
    exact ⟨j, hj, by rw [getElem!_pos zs.toArray j (by simpa using hj)]; simp⟩

theorem compactS_any (base : Nat) (w : World) (v : Value) (xs : List (List UInt8)) (h : OwnS w base v xs) (hx : xs.length ≤ 1000000000) :
    Calls Try.prog 46 #[v] w fun e w' => ∃ v', e = .returned v' ∧ OwnS w' base v' (Lib.compact xs) ∧ Below base w w' := by
  rcases h.2 with ⟨rfl, h0⟩ | ⟨g, cap, cur, rfl, hb, hg, r1, r2, r3, r4⟩
  · have : xs = [] := List.eq_nil_of_length_eq_zero h0
    subst this
    refine (AnyG.slices_Compact_string_empty Try.compactS none 0 w).mono ?_
    rintro e w' ⟨rfl, rfl⟩
    exact ⟨_, rfl, h, Below.refl _ _⟩
  · obtain ⟨g', cap', e0, _, _, _, _, _, hH⟩ := Lib.holds_of_ownsRow (enc := encStr) (zs := xs) h (by intro e; cases e)
    cases e0
    refine (AnyG.slices_Compact_string Try.compactS g 0 cap xs w hH (by omega) r1).mono ?_
    rintro e w' ⟨rfl, q, rfl⟩
    have hc := Lib.compact_length_le xs
    have hl : (Lib.compact xs ++ List.replicate (xs.length - (Lib.compact xs).length) []).length = xs.length := by simp; omega
    have h1 := Lib.ownsRow_putRow (enc := encStr) (q := q) (k := (Lib.compact xs).length) h hl hc
    rw [List.take_left'] at h1
    · exact ⟨_, rfl, h1, Lib.below_putRow (Below.refl base w) hb⟩
    · rfl

theorem filt_take (xs : List (List UInt8)) (k : Nat) (h : k < xs.length) : (xs.take (k + 1)).filter Tp.filter = (xs.take k).filter Tp.filter ++ (if Tp.filter xs[k] = true then [xs[k]] else []) := by
  rw [List.take_add_one, List.getElem?_eq_getElem h, List.filter_append]
  congr 1
  simp [List.filter_cons]

set_option maxHeartbeats 1000000 in
set_option maxRecDepth 100000 in
theorem filters_any (v : Value) (xs : List (List UInt8)) (w : World) (hS : Strs w v xs) (hl : xs.length ≤ 1000) (hs : ∀ x ∈ xs, x.length ≤ 1000) :
    Calls Try.prog 29 #[v] w fun e w' => ∃ v', e = .returned v' ∧ OwnS w' w.heap.size v' (Tp.clean xs) ∧ Kept w w' := by
  obtain ⟨a, cap, rfl, hc1, hc2, hat⟩ := strs_get hS
  have HA := Lib.hid hat
  have HS := Lib.hid hs
  clear hat hs hS hc2
  go_enter Try.func29, Try.ntmps29
  go_wp2
  go_loopw [3, 7] (fun r i wr => ∃ k : Nat, k ≤ xs.length ∧ i = .int .i64 k ∧ OwnS wr w.heap.size r ((xs.take k).filter Tp.filter) ∧ Kept w wr) (fun _ i _ => xs.length - (intOf i).toNat)
  case atStart => exact ⟨0, Nat.zero_le _, rfl, OwnS.nil _ _, Kept.refl _⟩
  case round =>
    obtain ⟨k, hk, rfl, hown, kr⟩ := hrel
    by_cases hlt : k < xs.length
    · obtain ⟨b, off, p, rfl, hb, hc, lp⟩ := HA.out k hlt
      have hck := (Below.cell kr (p := ⟨b, off + k, none⟩) hb).trans hc
      have hps : p.size ≤ 1000 := by rw [← str_size p, lp]; exact HS.out _ (List.getElem_mem hlt)
      have Hst := Lib.hid (filt_take xs k hlt)
      rw [← lp] at Hst
      have hfl : ((xs.take k).filter Tp.filter).length ≤ 1000 := Nat.le_trans (List.length_filter_le _ _) (by rw [List.length_take]; omega)
      clear hc lp
      go_wp2_with fail
      refine (filter_any p _ (by omega)).mono ?_
      rintro e w1 ⟨rfl, k1⟩
      have hck1 := (Below.cell k1 (p := ⟨b, off + k, none⟩) (Nat.lt_of_lt_of_le hb kr.size)).trans hck
      have kr1 := kr.trans k1
      have hown1 := hown.kept k1
      clear hck hown
      cases hf : Tp.filter p.data.toList with
      | false =>
        rw [hf] at Hst
        clear hf
        go_wp2
        go_roundw
        case rel => exact ⟨k + 1, by omega, by go_num, by rw [Hst.out]; simpa using hown1, kr1⟩
        case measure => simp [intOf]; omega
      | true =>
        rw [hf] at Hst
        clear hf
        go_wp2_with fail
        refine (clone_any p _ (by omega)).mono ?_
        rintro e w2 ⟨rfl, k2⟩
        have kr2 := kr1.trans k2
        have hown2 := hown1.kept k2
        clear hown1 hck1
        go_wp2_with (first | (at_builtin; refine wp_snoc hown2 (by omega) kr2.size p rfl _ _ rfl rfl rfl ?_))
        intro g cap w3 hown3 hb3
        go_wp2
        go_roundw
        case rel => exact ⟨k + 1, by omega, by go_num, by rw [Hst.out]; simpa using hown3, Below.trans kr2 hb3⟩
        case measure => simp [intOf]; omega
    · have hke : k = xs.length := by omega
      subst hke
      rw [List.take_length] at hown
      have hfl : (xs.filter Tp.filter).length ≤ 1000 := Nat.le_trans (List.length_filter_le _ _) hl
      have Hsort := Lib.hid (sortS_any w.heap.size wr kr.size u3 _ hown (by omega) (fun x hx => HS.out x (List.mem_filter.1 hx).1))
      clear hown
      go_wp2_with fail
      refine Hsort.out.mono ?_
      rintro e w1 ⟨rfl, zs, o1, l1, m1, s1, b1⟩
      have Hz := Lib.hid (compact_clean (xs := xs) (fun x => List.mem_filter) m1 s1)
      have Hcomp := Lib.hid (compactS_any w.heap.size w1 u3 zs o1 (by omega))
      clear o1 m1 s1
      go_wp2_with fail
      refine Hcomp.out.mono ?_
      rintro e w2 ⟨v', rfl, o2, b2⟩
      go_wp2
      go_ret
      exact ⟨_, rfl, by rw [← Hz.out]; exact o2, Below.trans (Below.trans kr b1) b2⟩
end Go.Proofs.Ytlpkeimcklhdbaa
