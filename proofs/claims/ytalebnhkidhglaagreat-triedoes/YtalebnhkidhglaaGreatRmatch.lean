/-
  The walk of a node's match.
-/
import Derived.Test.YtalebnhkidhglaaGreatRseq
namespace Go.Proofs.YtalebnhkidhglaaGreat
open Go.ChangeShapes Go.WideShapes Go.ChangeAt Go.RowKit Go.Maps Go.Shelf

theorem keysI_any (mb : Option Nat) (w : World) : Calls Tryz.prog 53 #[.map mb] w fun e w' => e = .returned (.func (.func 70) #[] #[.pointer (some ⟨w.heap.size, 0, none⟩)]) ∧ w' = w.alloc (.cells #[.map mb] 61) :=
  (callsIn_wide (n := 5)).1 (AnyZI.keys_in Tryz.keysI Fence.wide 5 trivial rfl mb w)
/-- who asks at a node, behind a row -/
theorem askers_any (base : Nat) (w : World) (n a : Nat) (ask : Int → Nat) (h : AskMap w n a ask) (hn : n ≤ 1000) (v : Value) (xs : List Int) (hbase : base ≤ w.heap.size) (hown : OwnI w base v xs) (hx : xs.length ≤ 999000) :
    Calls Tryz.prog 52 #[v, .func (.func 70) #[] #[.pointer (some ⟨w.heap.size, 0, none⟩)]] (w.alloc (.cells #[.map (some a)] 61)) fun e w' => ∃ v' ks, e = .returned v' ∧ (∀ i, i ∈ ks ↔ 0 < ask i) ∧ ks.length ≤ n ∧ OwnI w' base v' (xs ++ ks) ∧ Below base w w' := by
  obtain ⟨D, h1, h2, _⟩ := h
  have hs := h1.size_le
  refine ((callsIn_wide (n := 5)).1 (appendSeq_in 5 (by omega) base w.heap.size a n D v xs _ (by simp; omega) (World.ownsRow.alloc hown _) (by omega) (by simp) (by simp) (h1.alloc _))).mono ?_
  rintro e w' ⟨v', ks, rfl, hk, hl, ho, hB⟩
  exact ⟨v', ks, rfl, fun i => by rw [hk, h2]; simp, by omega, ho, ((Below.refl base w).alloc hbase _).trans hB⟩

theorem TrieAt.below {w w' : World} {n : Nat} {N : Path → Option Loc} {A : Path → Int → Nat} (h : TrieAt w n N A) {base : Nat} (hB : Below base w w') (hof : ∀ i, Of N i → i < base) : TrieAt w' n N A :=
  h.but (S := fun i => base ≤ i) ⟨hB.os, hB.tape, hB.output, hB.size, fun i _ hi => hB.block i (by omega)⟩ (fun i hi hb => by have := hof i hi; omega)
theorem OwnI.nil (w : World) (base : Nat) : OwnI w base (.slice none 0 0) [] := World.ownsRow_nil _ _ _ _

/-- does a filter let a topic by, level by level? -/
def lets : Path → Path → Bool
  | [], [] => true
  | [], _ :: _ => false
  | y :: q, [] => y == Tp.hash && q.isEmpty
  | y :: q, x :: ls => (y == Tp.hash && q.isEmpty) || ((y == Tp.plus || y == x) && lets q ls)
/-- texts that stay as long as what lies below base does -/
def Firm (base : Nat) (w : World) (v : Value) (ls : Path) : Prop := ∀ w', Below base w w' → Strs w' v ls
theorem Firm.on {base : Nat} {w w' : World} {v : Value} {ls : Path} (h : Firm base w v ls) (k : Below base w w') : Firm base w' v ls := fun _ k' => h _ (k.trans k')
theorem Firm.tail {base : Nat} {w : World} {g off cap : Nat} {x : List UInt8} {ls : Path} (h : Firm base w (.slice (some ⟨g, off, none⟩) (ls.length + 1) cap) (x :: ls)) (tl : Value)
    (hts : ∀ (w : World) (ms : Path), ms.length = ls.length → cap ≤ maxLen → g < w.heap.size → (∀ i y, ms[i]? = some y → w.cell? ⟨g, off + 1 + i, none⟩ = some (str y)) → Strs w tl ms) : Firm base w tl ls := by
  intro w' k
  obtain ⟨a, c, e, h1, h2, h3⟩ := h w' k
  cases e
  rcases h3 with h3 | ⟨g', off', e, hg, hc⟩
  · cases h3
  · cases e
    exact hts w' ls rfl h2 hg (fun i y hy => by rw [show off + 1 + i = off + (i + 1) by omega]; exact hc (i + 1) y (by simpa using hy))

/-- who asks for a filter behind p that lets these levels by -/
def Found (A : Path → Int → Nat) (p ls : Path) (K : List Int) : Prop := ∀ i, i ∈ K ↔ ∃ q, lets q ls = true ∧ 0 < A (p ++ q) i
theorem found_nil {A : Path → Int → Nat} {p : Path} {K K' : List Int} (h : ∀ i, i ∈ K ↔ 0 < A (p ++ [Tp.hash]) i) (h' : ∀ i, i ∈ K' ↔ 0 < A p i) : Found A p [] (K ++ K') := by
  intro i
  rw [List.mem_append, h, h']
  constructor
  · rintro (h | h)
    · exact ⟨[Tp.hash], rfl, h⟩
    · exact ⟨[], rfl, by simpa using h⟩
  · rintro ⟨q, hq, h⟩
    match q, hq, h with
    | [], _, h => exact .inr (by simpa using h)
    | y :: q, hq, h =>
      simp only [lets, Bool.and_eq_true, beq_iff_eq, List.isEmpty_iff] at hq
      obtain ⟨rfl, rfl⟩ := hq
      exact .inl h
/-- of the two ways on, the first k -/
def Upto (A : Path → Int → Nat) (p : Path) (x : List UInt8) (ls : Path) (k : Nat) (K : List Int) : Prop :=
  ∀ i, i ∈ K ↔ 0 < A (p ++ [Tp.hash]) i ∨ (1 ≤ k ∧ ∃ q, lets q ls = true ∧ 0 < A (p ++ [Tp.plus] ++ q) i) ∨ (2 ≤ k ∧ ∃ q, lets q ls = true ∧ 0 < A (p ++ [x] ++ q) i)
theorem Upto.done_ {A : Path → Int → Nat} {p : Path} {x : List UInt8} {ls : Path} {K : List Int} (hU : Upto A p x ls 2 K) : Found A p (x :: ls) K := by
  intro i
  rw [hU]
  constructor
  · rintro (h | ⟨_, q, hq, h⟩ | ⟨_, q, hq, h⟩)
    · exact ⟨[Tp.hash], rfl, h⟩
    · exact ⟨Tp.plus :: q, by simp [lets, hq], by simpa using h⟩
    · exact ⟨x :: q, by simp [lets, hq], by simpa using h⟩
  · rintro ⟨q, hq, h⟩
    match q, hq, h with
    | y :: q, hq, h =>
      simp only [lets, Bool.or_eq_true, Bool.and_eq_true, beq_iff_eq, List.isEmpty_iff] at hq
      rcases hq with ⟨rfl, rfl⟩ | ⟨hy | hy, hq⟩
      · exact .inl h
      · exact .inr (.inl ⟨by omega, q, hq, by rw [hy] at h; simpa using h⟩)
      · exact .inr (.inr ⟨by omega, q, hq, by rw [hy] at h; simpa using h⟩)
theorem Upto.start {A : Path → Int → Nat} {p : Path} (x : List UInt8) (ls : Path) {K : List Int} (h : ∀ i, i ∈ K ↔ 0 < A (p ++ [Tp.hash]) i) : Upto A p x ls 0 K := by
  intro i
  rw [h]
  exact ⟨.inl, fun h => by rcases h with h | ⟨h, _⟩ | ⟨h, _⟩ <;> first | exact h | omega⟩
theorem Upto.first {A : Path → Int → Nat} {p : Path} {x : List UInt8} {ls : Path} {K K' : List Int} (h : Upto A p x ls 0 K) (h' : Found A (p ++ [Tp.plus]) ls K') : Upto A p x ls 1 (K ++ K') := by
  intro i
  rw [List.mem_append, h, h']
  constructor
  · rintro ((h | ⟨h, _⟩ | ⟨h, _⟩) | h)
    · exact .inl h
    · omega
    · omega
    · exact .inr (.inl ⟨by omega, h⟩)
  · rintro (h | ⟨_, h⟩ | ⟨h, _⟩)
    · exact .inl (.inl h)
    · exact .inr h
    · omega
theorem Upto.second {A : Path → Int → Nat} {p : Path} {x : List UInt8} {ls : Path} {K K' : List Int} (h : Upto A p x ls 1 K) (h' : Found A (p ++ [x]) ls K') : Upto A p x ls 2 (K ++ K') := by
  intro i
  rw [List.mem_append, h, h']
  constructor
  · rintro ((h | ⟨h, h2⟩ | ⟨h, _⟩) | h)
    · exact .inl h
    · exact .inr (.inl ⟨by omega, h2⟩)
    · omega
    · exact .inr (.inr ⟨by omega, h⟩)
  · rintro (h | ⟨_, h⟩ | ⟨_, h⟩)
    · exact .inl (.inl h)
    · exact .inl (.inr (.inl ⟨by omega, h⟩))
    · exact .inr h
theorem found_none {w : World} {n : Nat} {N : Path → Option Loc} {A : Path → Int → Nat} (hT : TrieAt w n N A) {p : Path} (hp : N p = none) (ls : Path) : Found A p ls [] := by
  intro i
  constructor
  · intro h; cases h
  · rintro ⟨q, _, h⟩
    rw [hT.out _ (hT.none_on q p hp)] at h
    omega

/-- all that match does -/
def Matched (A : Path → Int → Nat) (n base : Nat) (p ls : Path) (xs : List Int) (w : World) (e : Ending) (w' : World) : Prop :=
  ∃ v K, e = .returned v ∧ Found A p ls K ∧ K.length + n ≤ 3 * 2 ^ ls.length * n ∧ OwnI w' base v (xs ++ K) ∧ Below base w w'
theorem pow_step (k n : Nat) : 3 * 2 ^ (k + 1) * n = 2 * (3 * 2 ^ k * n) := by rw [Nat.pow_succ]; simp only [Nat.mul_assoc, Nat.mul_comm, Nat.mul_left_comm]
theorem pow_low (k n : Nat) : 3 * n ≤ 3 * 2 ^ k * n := Nat.mul_le_mul_right n (Nat.le_mul_of_pos_right 3 (Nat.two_pow_pos k))
theorem hash_size : (⟨#[35]⟩ : ByteArray).size ≤ maxLen := by decide
theorem plus_size : (⟨#[43]⟩ : ByteArray).size ≤ maxLen := by decide

set_option maxHeartbeats 4000000 in
set_option maxRecDepth 100000 in
theorem nmatch_any : ∀ (ls : Path) (w : World) (n : Nat) (_ : n ≤ 1000) (N : Path → Option Loc) (A : Path → Int → Nat) (_ : TrieAt w n N A) (p : Path) (l : Loc) (_ : N p = some l) (v : Value) (base : Nat) (_ : base ≤ w.heap.size) (_ : ∀ i, Of N i → i < base) (_ : Firm base w v ls)
    (_ : ∀ x ∈ ls, x.length ≤ 1000000) (u : Value) (xs : List Int) (_ : OwnI w base u xs) (_ : xs.length + 3 * 2 ^ ls.length * n ≤ 900000),
    Calls Tryz.prog 33 #[.pointer (some ⟨l.b, 0, none⟩), v, u] w (Matched A n base p ls xs w)
  | [], w, n, hn, N, A, hT, p, l, hp, v, base, hbase, hof, hfirm, hll, u, xs, hu, hx => by
    obtain ⟨a, cap, rfl, h1, h2, h3⟩ := hfirm w (Below.refl _ _)
    clear h3 hfirm hll
    simp only [List.length_nil, Nat.pow_zero, Nat.mul_one] at hx ⊢
    have hnode := hT.node _ _ hp
    have c0 := hnode.c0
    have c1 := hnode.c1
    have hlk := hnode.kids.look hash_size
    have e0 : (⟨#[35]⟩ : ByteArray).data.toList = Tp.hash := rfl
    rw [e0] at hlk
    clear e0
    obtain ⟨a0, cap0, rfl⟩ := hu.form
    have HT := Lib.hid hT
    have HP := Lib.hid hp
    have HU := Lib.hid hu
    have HN := Lib.hid hof
    clear hT hp hu hof
    cases hN : N (p ++ [Tp.hash]) with
    | none =>
      simp only [hN, Option.map_none, Option.isSome_none] at hlk
      have HK : Hid (∀ i, i ∈ ([] : List Int) ↔ 0 < A (p ++ [Tp.hash]) i) := fun i => by rw [HT.out.out _ hN]; simp
      have HX : Hid (OwnI w base (.slice a0 xs.length cap0) (xs ++ [])) := by show OwnI _ _ _ _; rw [List.append_nil]; exact HU.out
      clear hN
      have ca2 := askers_any base w n l.a _ (HT.out.node _ _ HP.out).asks hn _ _ hbase HX.out (by simp; omega)
      go_enter Tryz.func33, Tryz.ntmps33
      go_wp2_with fail
      refine (keysI_any _ _).mono ?_
      rintro e w0 ⟨rfl, rfl⟩
      go_wp2_with fail
      refine ca2.mono ?_
      rintro e w2 ⟨v2, K2, rfl, hk2, hl2, ho2, hB2⟩
      have HK2 := Lib.hid hk2
      have HO2 := Lib.hid ho2
      clear hk2 ho2 ca2
      go_wp2
      go_ret
      exact ⟨v2, [] ++ K2, rfl, found_nil HK.out HK2.out, by simp; omega, by rw [← List.append_assoc]; exact HO2.out, (Below.refl base w).trans hB2⟩
    | some m =>
      simp only [hN, Option.map_some, Option.isSome_some] at hlk
      have hm := HT.out.node _ _ hN
      have cm := hm.c1
      have ca := fun (k : Nat) => askers_any base w n m.a _ hm.asks hn _ xs hbase HU.out (by omega)
      clear hN hm
      go_enter Tryz.func33, Tryz.ntmps33
      go_wp2_with fail
      refine (keysI_any _ _).mono ?_
      rintro e w0 ⟨rfl, rfl⟩
      go_wp2_with fail
      refine (ca 0).mono ?_
      rintro e w1 ⟨v1, K1, rfl, hk1, hl1, ho1, hB1⟩
      obtain ⟨a1, cap1, rfl⟩ := ho1.form
      have HK := Lib.hid hk1
      have HX := Lib.hid ho1
      rw [List.length_append]
      have n1 := (HT.out.below hB1 HN.out).node _ _ HP.out
      have c0' := n1.c0
      have c1' := n1.c1
      clear hk1 ho1 n1 ca
      have ca2 := askers_any base w1 n l.a _ ((HT.out.below hB1 HN.out).node _ _ HP.out).asks hn _ _ (Nat.le_trans hbase hB1.size) HX.out (by rw [List.length_append]; omega)
      rw [List.length_append] at ca2
      go_wp2_with fail
      refine (keysI_any _ _).mono ?_
      rintro e w0 ⟨rfl, rfl⟩
      go_wp2_with fail
      refine ca2.mono ?_
      rintro e w2 ⟨v2, K2, rfl, hk2, hl2, ho2, hB2⟩
      have HK2 := Lib.hid hk2
      have HO2 := Lib.hid ho2
      clear hk2 ho2 ca2
      go_wp2
      go_ret
      exact ⟨v2, K1 ++ K2, rfl, found_nil HK.out HK2.out, by simp; omega, by rw [← List.append_assoc]; exact HO2.out, hB1.trans hB2⟩
  | x :: ls, w, n, hn, N, A, hT, p, l, hp, v, base, hbase, hof, hfirm, hll, u, xs, hu, hx => by
    have IH := Lib.hid (nmatch_any ls)
    obtain ⟨a, cap, rfl, h1, h2, h3⟩ := hfirm w (Below.refl _ _)
    rcases h3 with h3 | ⟨g, off, rfl, hg, hc⟩
    · cases h3
    obtain ⟨s, cs0, ls0⟩ := strs_at hc 0 (by simp)
    rw [toList_eq, List.getElem_cons_zero] at ls0
    subst ls0
    simp only [Nat.add_zero] at cs0
    have hss : s.size ≤ maxLen := by
      have := hll s.data.toList (by simp)
      unfold maxLen; simp at this; omega
    obtain ⟨tl, htl, hts⟩ := tail_run g off ls.length cap (by simpa using h1)
    simp only [List.length_cons] at h1 hfirm ⊢
    have HFT := Lib.hid (Firm.tail hfirm tl hts)
    have HLL : Hid (∀ x ∈ ls, x.length ≤ 1000000) := fun y hy => hll y (by simp [hy])
    have hgb : ∀ w', Below base w w' → w'.cell? ⟨g, off, none⟩ = some (.string s) := by
      intro w' k
      obtain ⟨a', c', e, _, _, h3'⟩ := hfirm w' k
      cases e
      rcases h3' with h3' | ⟨g', off', e, _, hc'⟩
      · cases h3'
      · cases e; exact hc' 0 _ (by simp)
    have HGB := Lib.hid hgb
    have hix0 : ∀ W : World, (Instr.index 82 (.agg #[.string ⟨#[43]⟩, .string s]) (.int .i64 0)).run Tryz.prog W = .ok (.string ⟨#[43]⟩) W := fun W => by kernel_rfl
    have hix1 : ∀ W : World, (Instr.index 82 (.agg #[.string ⟨#[43]⟩, .string s]) (.int .i64 1)).run Tryz.prog W = .ok (.string s) W := fun W => by kernel_rfl
    obtain ⟨Bd, hBd⟩ : ∃ Bd, 3 * 2 ^ ls.length * n = Bd := ⟨_, rfl⟩
    have hlow := pow_low ls.length n
    have HBS : Hid (3 * 2 ^ (ls.length + 1) * n = 2 * Bd) := by show _ = _; rw [pow_step, hBd]
    simp only [List.length_cons] at hx
    rw [HBS.out] at hx
    rw [hBd] at hlow
    have HBd := Lib.hid hBd
    unfold maxLen at h2
    clear hc hts hfirm hll hgb hBd
    have hnode := hT.node _ _ hp
    have c0 := hnode.c0
    have c1 := hnode.c1
    have hlk := hnode.kids.look hash_size
    have e0 : (⟨#[35]⟩ : ByteArray).data.toList = Tp.hash := rfl
    rw [e0] at hlk
    clear e0
    obtain ⟨a0, cap0, rfl⟩ := hu.form
    have HT := Lib.hid hT
    have HP := Lib.hid hp
    have HU := Lib.hid hu
    have HN := Lib.hid hof
    clear hT hp hu hof
    cases hN : N (p ++ [Tp.hash]) with
    | none =>
      simp only [hN, Option.map_none, Option.isSome_none] at hlk
      have HK : Hid (∀ i, i ∈ ([] : List Int) ↔ 0 < A (p ++ [Tp.hash]) i) := fun i => by rw [HT.out.out _ hN]; simp
      have HX : Hid (OwnI w base (.slice a0 xs.length cap0) (xs ++ [])) := by show OwnI _ _ _ _; rw [List.append_nil]; exact HU.out
      clear hN
      go_enter Tryz.func33, Tryz.ntmps33
      go_wp2
      go_loopw [2, 43] (fun uv jv wr => ∃ (k : Nat) (K : List Int) (a2 : Option Addr) (cap2 : Nat), k ≤ 2 ∧ jv = .int .i64 k ∧ uv = .slice a2 (xs.length + K.length) cap2 ∧ OwnI wr base (.slice a2 (xs.length + K.length) cap2) (xs ++ K) ∧ Upto A p s.data.toList ls k K ∧ K.length + k * n ≤ n + k * Bd ∧ Below base w wr) (fun _ jv _ => 2 - (intOf jv).toNat)
      case atStart =>
        exact ⟨0, [], a0, cap0, by omega, rfl, rfl, HX.out, Upto.start _ _ HK.out, by simp, (Below.refl base w)⟩
      case round =>
        obtain ⟨k, K, a2, cap2, hk2, rfl, rfl, ho2, hu2, hl2, hB2⟩ := hrel
        have HO2 := Lib.hid ho2
        have HU2 := Lib.hid hu2
        clear ho2 hu2
        have T2 := HT.out.below hB2 HN.out
        have n2 := T2.node _ _ HP.out
        have c0r := n2.c0
        rcases (by omega : k = 0 ∨ k = 1 ∨ k = 2) with hk0 | hk1 | rfl
        · subst hk0
          have hlk2 := n2.kids.look (p := ⟨#[43]⟩) plus_size
          have e0 : (⟨#[43]⟩ : ByteArray).data.toList = Tp.plus := rfl
          rw [e0] at hlk2
          clear e0
          cases hN2 : N (p ++ [Tp.plus]) with
          | none =>
            simp only [hN2, Option.map_none, Option.isSome_none] at hlk2
            have HF := Lib.hid (found_none HT.out hN2 ls)
            clear hN2 n2 IH
            go_wp2
            go_roundw
            case rel => exact ⟨1, K, a2, cap2, by omega, by go_num, rfl, HO2.out, by have := HU2.out.first HF.out; rwa [List.append_nil] at this, by omega, hB2⟩
            case measure => simp [intOf]
          | some m2 =>
            simp only [hN2, Option.map_some, Option.isSome_some] at hlk2
            have ih := IH.out wr n hn N A T2 (p ++ [Tp.plus]) m2 hN2 tl base (Nat.le_trans hbase hB2.size) HN.out (HFT.out.on hB2) HLL.out _ (xs ++ K) HO2.out (by rw [List.length_append, HBd.out]; omega)
            clear hN2 n2 T2 IH
            go_wp2_with fail
            refine ih.mono ?_
            rintro e w3 ⟨v3, K3, rfl, hf3, hl3, ho3, hB3⟩
            obtain ⟨a3, cap3, rfl⟩ := ho3.form
            rw [HBd.out] at hl3
            have HF := Lib.hid hf3
            have HO3 := Lib.hid ho3
            clear hf3 ho3 ih
            go_wp2
            go_roundw
            case rel =>
              have hl : (xs ++ K ++ K3).length = xs.length + (K ++ K3).length := by simp
              have ho := HO3.out
              rw [hl, List.append_assoc] at ho
              refine ⟨_, _, _, _, _, _, _, _, _, _, _, _, _, _, _, _, _, _, _, _, _, _, _, ?_, rfl⟩
              exact ⟨1, K ++ K3, a3, cap3, by omega, by go_num, by rw [List.length_append], ho, HU2.out.first HF.out, by rw [List.length_append]; omega, hB2.trans hB3⟩
            case measure => simp [intOf]
        · subst hk1
          have hlk2 := n2.kids.look (p := s) hss
          cases hN2 : N (p ++ [s.data.toList]) with
          | none =>
            simp only [hN2, Option.map_none, Option.isSome_none] at hlk2
            have HF := Lib.hid (found_none HT.out hN2 ls)
            clear hN2 n2 IH
            go_wp2
            go_roundw
            case rel => exact ⟨2, K, a2, cap2, by omega, by go_num, rfl, HO2.out, by have := HU2.out.second HF.out; rwa [List.append_nil] at this, by omega, hB2⟩
            case measure => simp [intOf]
          | some m2 =>
            simp only [hN2, Option.map_some, Option.isSome_some] at hlk2
            have ih := IH.out wr n hn N A T2 (p ++ [s.data.toList]) m2 hN2 tl base (Nat.le_trans hbase hB2.size) HN.out (HFT.out.on hB2) HLL.out _ (xs ++ K) HO2.out (by rw [List.length_append, HBd.out]; omega)
            clear hN2 n2 T2 IH
            go_wp2_with fail
            refine ih.mono ?_
            rintro e w3 ⟨v3, K3, rfl, hf3, hl3, ho3, hB3⟩
            obtain ⟨a3, cap3, rfl⟩ := ho3.form
            rw [HBd.out] at hl3
            have HF := Lib.hid hf3
            have HO3 := Lib.hid ho3
            clear hf3 ho3 ih
            go_wp2
            go_roundw
            case rel =>
              have hl : (xs ++ K ++ K3).length = xs.length + (K ++ K3).length := by simp
              have ho := HO3.out
              rw [hl, List.append_assoc] at ho
              refine ⟨_, _, _, _, _, _, _, _, _, _, _, _, _, _, _, _, _, _, _, _, _, _, _, ?_, rfl⟩
              exact ⟨2, K ++ K3, a3, cap3, by omega, by go_num, by rw [List.length_append], ho, HU2.out.second HF.out, by rw [List.length_append]; omega, hB2.trans hB3⟩
            case measure => simp [intOf]
        · clear n2 T2
          go_wp2
          go_ret
          exact ⟨_, K, rfl, HU2.out.done_, by rw [List.length_cons, HBS.out]; omega, by have := HO2.out; exact this, hB2⟩
    | some m =>
      simp only [hN, Option.map_some, Option.isSome_some] at hlk
      have hm := HT.out.node _ _ hN
      have cm := hm.c1
      have ca := fun (k : Nat) => askers_any base w n m.a _ hm.asks hn _ xs hbase HU.out (by omega)
      clear hN hm
      go_enter Tryz.func33, Tryz.ntmps33
      go_wp2_with fail
      refine (keysI_any _ _).mono ?_
      rintro e w0 ⟨rfl, rfl⟩
      go_wp2_with fail
      refine (ca 0).mono ?_
      rintro e w1 ⟨v1, K1, rfl, hk1, hl1, ho1, hB1⟩
      obtain ⟨a1, cap1, rfl⟩ := ho1.form
      have HK := Lib.hid hk1
      have HX := Lib.hid ho1
      rw [List.length_append]
      have n1 := (HT.out.below hB1 HN.out).node _ _ HP.out
      have c0' := n1.c0
      have c1' := n1.c1
      have cs1 := HGB.out w1 hB1
      clear hk1 ho1 n1 ca
      go_wp2
      go_loopw [2, 43] (fun uv jv wr => ∃ (k : Nat) (K : List Int) (a2 : Option Addr) (cap2 : Nat), k ≤ 2 ∧ jv = .int .i64 k ∧ uv = .slice a2 (xs.length + K.length) cap2 ∧ OwnI wr base (.slice a2 (xs.length + K.length) cap2) (xs ++ K) ∧ Upto A p s.data.toList ls k K ∧ K.length + k * n ≤ n + k * Bd ∧ Below base w wr) (fun _ jv _ => 2 - (intOf jv).toNat)
      case atStart =>
        exact ⟨0, K1, a1, cap1, by omega, rfl, rfl, (by have := HX.out; rwa [List.length_append] at this), Upto.start _ _ HK.out, by simp; omega, hB1⟩
      case round =>
        obtain ⟨k, K, a2, cap2, hk2, rfl, rfl, ho2, hu2, hl2, hB2⟩ := hrel
        have HO2 := Lib.hid ho2
        have HU2 := Lib.hid hu2
        clear ho2 hu2
        have T2 := HT.out.below hB2 HN.out
        have n2 := T2.node _ _ HP.out
        have c0r := n2.c0
        rcases (by omega : k = 0 ∨ k = 1 ∨ k = 2) with hk0 | hk1 | rfl
        · subst hk0
          have hlk2 := n2.kids.look (p := ⟨#[43]⟩) plus_size
          have e0 : (⟨#[43]⟩ : ByteArray).data.toList = Tp.plus := rfl
          rw [e0] at hlk2
          clear e0
          cases hN2 : N (p ++ [Tp.plus]) with
          | none =>
            simp only [hN2, Option.map_none, Option.isSome_none] at hlk2
            have HF := Lib.hid (found_none HT.out hN2 ls)
            clear hN2 n2 IH
            go_wp2
            go_roundw
            case rel => exact ⟨1, K, a2, cap2, by omega, by go_num, rfl, HO2.out, by have := HU2.out.first HF.out; rwa [List.append_nil] at this, by omega, hB2⟩
            case measure => simp [intOf]
          | some m2 =>
            simp only [hN2, Option.map_some, Option.isSome_some] at hlk2
            have ih := IH.out wr n hn N A T2 (p ++ [Tp.plus]) m2 hN2 tl base (Nat.le_trans hbase hB2.size) HN.out (HFT.out.on hB2) HLL.out _ (xs ++ K) HO2.out (by rw [List.length_append, HBd.out]; omega)
            clear hN2 n2 T2 IH
            go_wp2_with fail
            refine ih.mono ?_
            rintro e w3 ⟨v3, K3, rfl, hf3, hl3, ho3, hB3⟩
            obtain ⟨a3, cap3, rfl⟩ := ho3.form
            rw [HBd.out] at hl3
            have HF := Lib.hid hf3
            have HO3 := Lib.hid ho3
            clear hf3 ho3 ih
            go_wp2
            go_roundw
            case rel =>
              have hl : (xs ++ K ++ K3).length = xs.length + (K ++ K3).length := by simp
              have ho := HO3.out
              rw [hl, List.append_assoc] at ho
              refine ⟨_, _, _, _, _, _, _, _, _, _, _, _, _, _, _, _, _, _, _, _, _, _, _, ?_, rfl⟩
              exact ⟨1, K ++ K3, a3, cap3, by omega, by go_num, by rw [List.length_append], ho, HU2.out.first HF.out, by rw [List.length_append]; omega, hB2.trans hB3⟩
            case measure => simp [intOf]
        · subst hk1
          have hlk2 := n2.kids.look (p := s) hss
          cases hN2 : N (p ++ [s.data.toList]) with
          | none =>
            simp only [hN2, Option.map_none, Option.isSome_none] at hlk2
            have HF := Lib.hid (found_none HT.out hN2 ls)
            clear hN2 n2 IH
            go_wp2
            go_roundw
            case rel => exact ⟨2, K, a2, cap2, by omega, by go_num, rfl, HO2.out, by have := HU2.out.second HF.out; rwa [List.append_nil] at this, by omega, hB2⟩
            case measure => simp [intOf]
          | some m2 =>
            simp only [hN2, Option.map_some, Option.isSome_some] at hlk2
            have ih := IH.out wr n hn N A T2 (p ++ [s.data.toList]) m2 hN2 tl base (Nat.le_trans hbase hB2.size) HN.out (HFT.out.on hB2) HLL.out _ (xs ++ K) HO2.out (by rw [List.length_append, HBd.out]; omega)
            clear hN2 n2 T2 IH
            go_wp2_with fail
            refine ih.mono ?_
            rintro e w3 ⟨v3, K3, rfl, hf3, hl3, ho3, hB3⟩
            obtain ⟨a3, cap3, rfl⟩ := ho3.form
            rw [HBd.out] at hl3
            have HF := Lib.hid hf3
            have HO3 := Lib.hid ho3
            clear hf3 ho3 ih
            go_wp2
            go_roundw
            case rel =>
              have hl : (xs ++ K ++ K3).length = xs.length + (K ++ K3).length := by simp
              have ho := HO3.out
              rw [hl, List.append_assoc] at ho
              refine ⟨_, _, _, _, _, _, _, _, _, _, _, _, _, _, _, _, _, _, _, _, _, _, _, ?_, rfl⟩
              exact ⟨2, K ++ K3, a3, cap3, by omega, by go_num, by rw [List.length_append], ho, HU2.out.second HF.out, by rw [List.length_append]; omega, hB2.trans hB3⟩
            case measure => simp [intOf]
        · clear n2 T2
          go_wp2
          go_ret
          exact ⟨_, K, rfl, HU2.out.done_, by rw [List.length_cons, HBS.out]; omega, by have := HO2.out; exact this, hB2⟩
end Go.Proofs.YtalebnhkidhglaaGreat
