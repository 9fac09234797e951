/-
  The walk of a node's filters.
-/
import Derived.Test.YtalebnhkidhglaaGreatRfilt
import Derived.RangeFuncBox
namespace Go.Proofs.YtalebnhkidhglaaGreat
open Go.ChangeShapes Go.WideShapes Go.ChangeAt Go.RowKit Go.Maps Go.Shelf Go.Sort

theorem les_pre : ∀ (p : Path) (x : List UInt8) (r : Path), Tp.les p (p ++ x :: r) = true
  | [], _, _ => rfl
  | y :: p, x, r => by rw [List.cons_append, Tp.les, if_pos rfl]; exact les_pre p x r
theorem les_mid : ∀ (p : Path) {x y : List UInt8} (r s : Path), Op.bytesLess x y = true → Tp.les (p ++ x :: r) (p ++ y :: s) = true
  | [], x, y, r, s, h => by
    have : x ≠ y := fun e => by subst e; rw [bl_irrefl] at h; cases h
    rw [List.nil_append, List.nil_append, Tp.les, if_neg this]; exact h
  | z :: p, x, y, r, s, h => by rw [List.cons_append, List.cons_append, Tp.les, if_pos rfl]; exact les_mid p r s h
theorem join_len : ∀ p : Path, (∀ x ∈ p, x.length ≤ 16) → (Tp.join p).length ≤ 17 * p.length
  | [], _ => Nat.zero_le _
  | [x], h => by have := h x (by simp); show x.length ≤ 17; omega
  | x :: y :: r, h => by
    have h1 := h x (by simp)
    have h2 := join_len (y :: r) (fun z hz => h z (by simp [hz]))
    rw [Tp.join_cons _ _ (by simp)]
    simp only [List.length_append, List.length_cons] at h2 ⊢
    omega

/-- a row of texts is no part of a trie -/
theorem TrieAt.row_no {w : World} {n : Nat} {N : Path → Option Loc} {A : Path → Int → Nat} (hT : TrieAt w n N A) {base : Nat} {v : Value} {xs : List (List UInt8)} (h : OwnS w base v xs) : ∀ i, Of N i → ¬ v.ownBlock = some i := by
  intro i hi e
  rcases h.2 with ⟨rfl, _⟩ | ⟨g, cap, cur, rfl, _, hg, _⟩
  · cases e
  · cases e
    exact hT.other hg ⟨fun _ _ e => (by cases e), fun _ _ e => (by cases e)⟩ hi

/-- of the paths from p on, those at p or below one of these levels -/
def Dk (p : Path) (ks : List (List UInt8)) (q : Path) : Prop := q = p ∨ ∃ x r, q = p ++ x :: r ∧ x ∈ ks
/-- the wanted filters from p on, in order -/
structure Listed (N : Path → Option Loc) (want : Path → Bool) (p : Path) (dn : Path → Prop) (L : List Path) : Prop where
  sorted : L.Pairwise fun a b => Tp.les a b = true
  mem : ∀ q, q ∈ L ↔ p <+: q ∧ (N q).isSome = true ∧ want q = true ∧ dn q
theorem les_nodup {L : List Path} (h : L.Pairwise fun a b => Tp.les a b = true) : L.Nodup := pw_mono h (fun a b _ _ h e => by subst e; rw [Tp.les_irrefl] at h; cases h)
theorem Listed.start {N : Path → Option Loc} {want : Path → Bool} {p : Path} {l : Loc} (hp : N p = some l) : Listed N want p (Dk p []) (if want p = true then [p] else []) := by
  by_cases h : want p = true
  · rw [if_pos h]
    refine ⟨by simp, fun q => ?_⟩
    rw [List.mem_singleton]
    constructor
    · rintro rfl; exact ⟨List.prefix_refl q, by rw [hp]; rfl, h, .inl rfl⟩
    · rintro ⟨_, _, _, rfl | ⟨_, _, _, h⟩⟩
      · rfl
      · cases h
  · rw [if_neg h]
    refine ⟨List.Pairwise.nil, fun q => ?_⟩
    constructor
    · intro h; cases h
    · rintro ⟨_, _, h1, rfl | ⟨_, _, _, h2⟩⟩
      · exact absurd h1 h
      · cases h2
theorem Listed.join {N : Path → Option Loc} {want : Path → Bool} {p : Path} {ks : List (List UInt8)} {x : List UInt8} {L K : List Path} (hr : Rising (ks ++ [x])) (hL : Listed N want p (Dk p ks) L) (hK : Listed N want (p ++ [x]) (fun _ => True) K) : Listed N want p (Dk p (ks ++ [x])) (L ++ K) := by
  have hlt : ∀ y ∈ ks, Op.bytesLess y x = true := fun y hy => (List.pairwise_append.1 hr).2.2 y hy x (by simp)
  refine ⟨List.pairwise_append.2 ⟨hL.sorted, hK.sorted, fun a ha b hb => ?_⟩, fun q => ?_⟩
  · obtain ⟨r, rfl⟩ := ((hK.mem b).1 hb).1
    rcases ((hL.mem a).1 ha).2.2.2 with rfl | ⟨y, s, rfl, hy⟩
    · rw [List.append_assoc]; exact les_pre _ x r
    · rw [List.append_assoc]; exact les_mid p s r (hlt y hy)
  · rw [List.mem_append, hL.mem, hK.mem]
    constructor
    · rintro (⟨h1, h2, h3, h4⟩ | ⟨h1, h2, h3, _⟩)
      · refine ⟨h1, h2, h3, ?_⟩
        rcases h4 with h4 | ⟨y, r, h4, h5⟩
        · exact .inl h4
        · exact .inr ⟨y, r, h4, by simp [h5]⟩
      · obtain ⟨r, rfl⟩ := h1
        exact ⟨⟨x :: r, by simp⟩, h2, h3, .inr ⟨x, r, by simp, by simp⟩⟩
    · rintro ⟨h1, h2, h3, rfl | ⟨y, r, rfl, h4⟩⟩
      · exact .inl ⟨h1, h2, h3, .inl rfl⟩
      · rw [List.mem_append, List.mem_singleton] at h4
        rcases h4 with h4 | rfl
        · exact .inl ⟨h1, h2, h3, .inr ⟨y, r, rfl, h4⟩⟩
        · exact .inr ⟨⟨r, by simp⟩, h2, h3, trivial⟩
theorem Listed.done_ {w : World} {n : Nat} {N : Path → Option Loc} {A : Path → Int → Nat} (hT : TrieAt w n N A) {want : Path → Bool} {p : Path} {ks : List (List UInt8)} {L : List Path} (hks : ∀ x, x ∈ ks ↔ (N (p ++ [x])).isSome = true) (hL : Listed N want p (Dk p ks) L) : Listed N want p (fun _ => True) L := by
  refine ⟨hL.sorted, fun q => ?_⟩
  rw [hL.mem]
  constructor
  · rintro ⟨h1, h2, h3, _⟩; exact ⟨h1, h2, h3, trivial⟩
  · rintro ⟨⟨r, rfl⟩, h2, h3, _⟩
    refine ⟨⟨r, rfl⟩, h2, h3, ?_⟩
    cases r with
    | nil => exact .inl (by simp)
    | cons x r =>
      refine .inr ⟨x, r, rfl, (hks x).2 ?_⟩
      cases e : N (p ++ [x]) with
      | some l => rfl
      | none =>
        have := hT.none_on r _ e
        rw [List.append_assoc] at this
        rw [show p ++ x :: r = p ++ ([x] ++ r) from rfl, this] at h2
        cases h2

/-- what the asking closure wants of memory -/
structure Asker (n : Nat) (N : Path → Option Loc) (A : Path → Int → Nat) (g : Nat) (lb : Array Value) (want : Path → Bool) (I : World → Prop) : Prop where
  enters : ∀ args w, (callFunc g args).run Tryz.prog w = .ok (.enter g args) w
  call : ∀ W q l, TrieAt W n N A → I W → N q = some l → Calls Tryz.prog g (#[.pointer (some ⟨l.b, 0, none⟩)] ++ lb) W fun e w' => e = .returned (.bool (want q)) ∧ Kept W w'
  kept : ∀ W W', I W → Kept W W' → I W'
  rows : ∀ W W' base v xs, I W → OwnS W base v xs → But (fun i => v.ownBlock = some i) W W' → I W'
/-- where a row has gone -/
def Off (u v : Value) (b : Nat) : Prop := v.ownBlock = u.ownBlock ∨ ∀ g, v.ownBlock = some g → b ≤ g

/-- all that filters does -/
def Told (N : Path → Option Loc) (want : Path → Bool) (p : Path) (T : List Path) (u : Value) (w : World) (e : Ending) (w' : World) : Prop :=
  ∃ v L, e = .returned v ∧ Listed N want p (fun _ => True) L ∧ OwnS w' 0 v ((T ++ L).map Tp.join) ∧ But (fun i => u.ownBlock = some i) w w' ∧ Off u v w.heap.size
theorem OwnS.form {w : World} {base : Nat} {v : Value} {xs : List (List UInt8)} (h : OwnS w base v xs) : ∃ a cap, v = .slice a xs.length cap := by
  rcases h.2 with ⟨rfl, h0⟩ | ⟨g, cap, cur, rfl, _⟩
  · exact ⟨none, 0, by rw [h0]⟩
  · exact ⟨_, cap, rfl⟩

theorem str_of {P : ByteArray} {l : List UInt8} (h : P.data.toList = l) : str l = .string P := by
  subst h
  rfl
theorem take_snoc {α : Type} {l : List α} {k : Nat} (h : k < l.length) : l.take (k + 1) = l.take k ++ [l[k]] := List.take_succ_eq_append_getElem h
theorem rising_take {ks : List (List UInt8)} (h : Rising ks) (k : Nat) : Rising (ks.take k) := List.Pairwise.sublist (List.take_sublist k ks) h
theorem rising_not {ks : List (List UInt8)} (h : Rising ks) {k : Nat} (hk : k < ks.length) : ks[k] ∉ ks.take k := by
  intro hm
  have hr := rising_take h (k + 1)
  rw [take_snoc hk] at hr
  have := (List.pairwise_append.1 hr).2.2 _ hm ks[k] (by simp)
  rw [bl_irrefl] at this
  cases this
theorem Listed.under {N : Path → Option Loc} {want : Path → Bool} {p : Path} {ks : List (List UInt8)} {x : List UInt8} {L : List Path} (hL : Listed N want p (Dk p ks) L) (hx : x ∉ ks) {q : Path} (hq : q ∈ L) : ¬ p ++ [x] <+: q := by
  rintro ⟨r, rfl⟩
  rcases ((hL.mem _).1 hq).2.2.2 with e | ⟨y, s, e, hy⟩
  · have := congrArg List.length e; simp at this
  · have : x = y := by simpa using congrArg List.head? (List.append_cancel_left (by simpa using e : p ++ (x :: r) = p ++ (y :: s)))
    subst this
    exact hx hy
theorem keep_nodup {N : Path → Option Loc} {want : Path → Bool} {p : Path} {dn : Path → Prop} {T L : List Path} (hT : T.Nodup) (hTp : ∀ q ∈ T, ¬ p <+: q) (hL : Listed N want p dn L) : (T ++ L).Nodup :=
  List.nodup_append.2 ⟨hT, les_nodup hL.sorted, fun a ha b hb e => hTp a ha (by rw [e]; exact ((hL.mem b).1 hb).1)⟩
theorem Off.but {u v : Value} {b : Nat} (h : Off u v b) {i : Nat} (hi : i < b) (e : v.ownBlock = some i) : u.ownBlock = some i := by
  rcases h with h | h
  · rw [← h]; exact e
  · have := h i e; omega

set_option maxHeartbeats 4000000 in
set_option maxRecDepth 100000 in
theorem filters_any (n : Nat) (hn : n ≤ 1000000) (N : Path → Option Loc) (A : Path → Int → Nat) (g : Nat) (lb : Array Value) (want : Path → Bool) (I : World → Prop) (hA : Asker n N A g lb want I) (S : List Path) (hS : S.length ≤ 1000000) (hSw : ∀ q, want q = true → (N q).isSome = true → q ∈ S) :
    ∀ (h : Nat) (w : World) (_ : TrieAt w n N A) (_ : I w) (p : Path) (l : Loc) (_ : N p = some l) (_ : 9 ≤ p.length + h) (P : ByteArray) (_ : P.data.toList = Tp.join p) (T : List Path) (_ : T.Nodup) (_ : ∀ q ∈ T, q ∈ S) (_ : ∀ q ∈ T, ¬ p <+: q) (u : Value) (_ : OwnS w 0 u (T.map Tp.join)),
    Calls Tryz.prog 36 #[.pointer (some ⟨l.b, 0, none⟩), .string P, .func (.func g) #[] lb, u] w (Told N want p T u w)
  | 0, w, hT, _, p, l, hp, hh, _, _, _, _, _, _, _, _ => by
    have := (hT.good p l hp).1
    omega
  | h + 1, w, hT, hI, p, l, hp, hh, P, hP, T, hTn, hTS, hTp, u, hu => by
    have IH := Lib.hid (filters_any n hn N A g lb want I hA S hS hSw h)
    have hgd := hT.good p l hp
    have hPs : P.size ≤ 136 := by
      have := join_len p (fun x hx => (hgd.2 x hx).2.1)
      rw [← hP] at this
      simp at this
      have := hgd.1
      omega
    have hTl : T.length ≤ 1000000 := Nat.le_trans (nodup_le hTn hTS) hS
    have cW := hA.call w p l hT hI hp
    have eg := hA.enters
    obtain ⟨a0, cap0, rfl⟩ := hu.form
    rw [List.length_map] at *
    have HT := Lib.hid hT
    have HP := Lib.hid hp
    have HI := Lib.hid hI
    have HPl := Lib.hid hP
    have HTn := Lib.hid hTn
    have HTS := Lib.hid hTS
    have HTp := Lib.hid hTp
    have HU := Lib.hid hu
    have HSw := Lib.hid hSw
    have HA := Lib.hid hA
    clear hT hp hI hP hTn hTS hTp hu hSw hA
    obtain ⟨i0, hi, hz0, hz1, hz2⟩ := info_parts infoStr
    have Hi := Lib.hid hi
    have Hz0 := Lib.hid hz0
    have Hz1 := Lib.hid hz1
    have Hz2 := Lib.hid hz2
    clear hi hz0 hz1 hz2
    go_enter Tryz.func36, Tryz.ntmps36
    go_wp2_with fail
    refine cW.mono ?_
    rintro e w1 ⟨rfl, k1⟩
    have T1 := HT.out.kept k1
    have I1 := HA.out.kept _ _ HI.out k1
    have o1 := OwnS.kept HU.out k1
    have HL := Lib.hid (Listed.start (want := want) HP.out)
    clear cW
    cases hw : want p
    · rw [hw] at HL
      have HL0 : Hid (Listed N want p (Dk p []) []) := HL.out
      obtain ⟨w3, hw3⟩ : ∃ w3, w1 = w3 := ⟨_, rfl⟩
      rw [hw3] at k1 T1 I1 o1
      rw [hw3]
      clear hw3 HL
      have n3 := T1.node _ _ HP.out
      have c0 := n3.c0
      have HN3 := Lib.hid n3
      have HT3 := Lib.hid T1
      have HI3 := Lib.hid I1
      have HO3 : Hid (OwnS w3 0 (.slice a0 (T.length + ([] : List Path).length) cap0) ((T ++ []).map Tp.join)) := by show OwnS _ _ _ _; rw [List.append_nil]; exact o1
      have HB3 : Hid (But (fun i => (Value.slice a0 T.length cap0).ownBlock = some i) w w3) := k1.but
      have HOF : Hid (Off (.slice a0 T.length cap0) (.slice a0 (T.length + ([] : List Path).length) cap0) w.heap.size) := .inl rfl
      clear n3 T1 I1 o1 k1
      go_wp2_with fail
      refine (keysS_any _ _).mono ?_
      rintro e w4 ⟨rfl, rfl⟩
      go_wp2_with fail
      refine (sorted_any w3 n l.c _ HN3.out.kids hn).mono ?_
      rintro e w5 ⟨vk, ks, rfl, hris, hks, hok, k5⟩
      have hklt := hok.lt
      obtain ⟨ak, ck, rfl⟩ := hok.form
      have HR := Lib.hid hris
      have HKS : Hid (∀ x, x ∈ ks ↔ (N (p ++ [x])).isSome = true) := fun x => by rw [hks]; simp
      have HOK := Lib.hid hok
      have HKL := Lib.hid hklt
      have hkl : ks.length ≤ 9223372036854775807 := by
        rcases hok.2 with ⟨_, h0⟩ | ⟨_, cap, _, e, _, _, h0, h1, _⟩
        · omega
        · unfold maxLen at h1; omega
      clear hris hks hok hklt
      go_wp2
      go_loopw [3, 26] (fun ov iv wr => ∃ (k : Nat) (L : List Path) (a6 : Option Addr) (c6 : Nat), k ≤ ks.length ∧ iv = .int .i64 k ∧ ov = .slice a6 (T.length + L.length) c6 ∧ OwnS wr 0 (.slice a6 (T.length + L.length) c6) ((T ++ L).map Tp.join) ∧ TrieAt wr n N A ∧ I wr ∧ Listed N want p (Dk p (ks.take k)) L ∧
          But (fun i => (Value.slice a0 T.length cap0).ownBlock = some i) w wr ∧ Off (.slice a0 T.length cap0) (.slice a6 (T.length + L.length) c6) w.heap.size ∧ OwnS wr (w3.heap.size + 1) (.slice ak ks.length ck) ks ∧ (∀ g, (Value.slice a6 (T.length + L.length) c6).ownBlock = some g → g < w3.heap.size ∨ w5.heap.size ≤ g) ∧ w5.heap.size ≤ wr.heap.size)
        (fun _ iv _ => ks.length - (intOf iv).toNat)
      case atStart =>
        exact ⟨0, [], a0, cap0, Nat.zero_le _, rfl, rfl, OwnS.kept HO3.out k5, HT3.out.kept k5, HA.out.kept _ _ HI3.out k5, by rw [List.take_zero]; exact HL0.out, HB3.out.trans (k5.but (S := fun _ => False)) (fun _ _ h => h.elim), HOF.out, HOK.out, fun g hg => .inl ((World.ownsRow.lt HO3.out) g hg).2, Nat.le_refl _⟩
      case round =>
        obtain ⟨k, L, a6, c6, hk, rfl, rfl, ho6, T6, I6, L6, B6, F6, hok6, hg6, hs6⟩ := hrel
        have HO6 := Lib.hid ho6
        have HT6 := Lib.hid T6
        have HI6 := Lib.hid I6
        have HL6 := Lib.hid L6
        have HB6 := Lib.hid B6
        have HF6 := Lib.hid F6
        have HOK6 := Lib.hid hok6
        have HG6 := Lib.hid hg6
        clear ho6 T6 I6 L6 B6 F6 hok6 hg6
        by_cases hlt : k < ks.length
        · obtain ⟨ax, cx, ex, _, hcm, hx3⟩ := HOK6.out.strs
          cases ex
          rcases hx3 with hx3 | ⟨gk, off, rfl, hgk, hcx⟩
          · rw [hx3] at hlt; exact absurd hlt (by simp)
          · obtain ⟨x, cx0, lx⟩ := strs_at hcx k hlt
            rw [toList_eq] at lx
            obtain ⟨mx, hmx⟩ := Option.isSome_iff_exists.1 ((HKS.out ks[k]).1 (List.getElem_mem hlt))
            have hxg := (HT6.out.good _ _ hmx).2 ks[k] (by simp)
            have hxs : x.size ≤ 16 := by
              have := hxg.2.1
              rw [← lx] at this
              simpa using this
            have n6 := HT6.out.node _ _ HP.out
            have c6d := n6.c0
            have hlk := (n6.but (S := fun _ => False) (Kept.but (Kept.drew (Kept.refl wr))) id id id).kids.look1 (p := x) (by unfold maxLen; omega)
            rw [lx] at hlk
            simp only [hmx, Option.map_some] at hlk
            have HX := Lib.hid lx
            have HMX := Lib.hid hmx
            unfold maxLen at hcm
            clear lx hmx hxg n6 hcx
            go_wp2_with fail
            go_still_tail 11, (by kernel_rfl)
            still_call (below_text P x _ (by omega) (by omega))
            repeat still_step
            refine wpStill_nil ?_
            change wpList _ _ _ _ _ wr.drew
            have kd : Kept wr wr.drew := Kept.drew (Kept.refl wr)
            generalize wr.drew = wd at kd hlk ⊢
            have HNot := rising_not HR.out hlt
            have ih := IH.out wd (HT6.out.kept kd) (HA.out.kept _ _ HI6.out kd) (p ++ [ks[k]]) mx HMX.out (by simp; omega) (belowOf P x) (belowOf_list P x p _ HPl.out HX.out (fun y hy => (hgd.2 y hy).1)) (T ++ L) (keep_nodup HTn.out HTp.out HL6.out)
              (fun q hq => by
                rcases List.mem_append.1 hq with h1 | h1
                · exact HTS.out q h1
                · have := (HL6.out.mem q).1 h1
                  exact HSw.out q this.2.2.1 this.2.1)
              (fun q hq => by
                rcases List.mem_append.1 hq with h1 | h1
                · exact fun h2 => HTp.out q h1 ((List.prefix_append p [ks[k]]).trans h2)
                · exact HL6.out.under HNot h1)
              _ (OwnS.kept HO6.out kd)
            clear hlk
            go_wp2_with fail
            refine ih.mono ?_
            rintro e w7 ⟨v7, K, rfl, L7, o7, B7, F7⟩
            clear ih
            obtain ⟨a7, c7, rfl⟩ := o7.form
            have HL7 := Lib.hid L7
            have HO7 := Lib.hid o7
            have HB7 := Lib.hid B7
            have HF7 := Lib.hid F7
            clear L7 o7 B7 F7
            rw [List.length_map, List.length_append, List.length_append]
            go_wp2
            go_roundw
            case rel =>
              have hl7 : ((T ++ L ++ K).map Tp.join).length = T.length + (L ++ K).length := by simp
              have ho := HO7.out
              have hf := HF7.out
              rw [hl7] at ho hf
              rw [List.append_assoc] at ho
              have hrow := HT6.out.row_no HO6.out
              have bd : But (fun i => (Value.slice a6 (T.length + L.length) c6).ownBlock = some i) wr w7 := (Kept.but kd).trans HB7.out (fun _ _ h => h)
              refine ⟨k + 1, L ++ K, a7, c7, by omega, by go_num, by rw [List.length_append, Nat.add_assoc], ho, HT6.out.but bd hrow, HA.out.rows _ _ _ _ _ HI6.out HO6.out bd, by rw [take_snoc hlt]; exact HL6.out.join (by rw [← take_snoc hlt]; exact rising_take HR.out _) HL7.out, HB6.out.trans bd (fun i hi e => HF6.out.but hi e), ?_, row_but HOK6.out bd (fun i hi e => ?_), ?_, Nat.le_trans hs6 bd.size⟩
              · rcases hf with hf | hf
                · rcases HF6.out with h1 | h1
                  · exact .inl (hf.trans h1)
                  · exact .inr (fun g hg => h1 g (by rw [← hf]; exact hg))
                · exact .inr (fun g hg => by have := hf g hg; have := kd.size; have := HB6.out.size; omega)
              · have h1 := HKL.out i hi
                rcases HG6.out i e with h2 | h2 <;> omega
              · intro g hg
                rcases hf with hf | hf
                · exact HG6.out g (by rw [← hf]; exact hg)
                · have := hf g hg; have := kd.size; exact .inr (by omega)
            case measure => simp [intOf]; omega
        · have Hd := Lib.hid ((by have := HL6.out; rw [List.take_of_length_le (by omega)] at this; exact this.done_ HT6.out HKS.out : Listed N want p (fun _ => True) L))
          go_wp2
          go_ret
          exact ⟨_, L, rfl, Hd.out, HO6.out, HB6.out, HF6.out⟩
    · rw [hw] at HL
      have HL0 : Hid (Listed N want p (Dk p []) [p]) := HL.out
      clear HL
      go_wp2_with fail
      refine (Go.Proofs.YtalebnhkidhglaaGreat.clone_any P _ (by omega)).mono ?_
      rintro e w2 ⟨rfl, k2⟩
      have T2 := T1.kept k2
      have I2 := HA.out.kept _ _ I1 k2
      have o2 : w2.ownsRow 0 9 1 (.slice a0 T.length cap0) T.length ((T.map Tp.join).map str) := by
        have := OwnS.kept o1 k2
        unfold OwnS at this
        rwa [List.length_map] at this
      have hrow2 := T2.row_no (OwnS.kept o1 k2)
      have HO2 := Lib.hid (OwnS.kept o1 k2)
      go_wp2_with (first
        | (at_builtin; refine wpList_append_own_at _ rfl _ _ 40 rfl 0 9 i0 (.string ⟨#[]⟩) 1 16 Tryz.underlying40 Hi.out Hz0.out Hz1.out Hz2.out rfl (by decide) _ _ _ rfl (o2.alloc _) ⟨w2.heap.size, 0, none⟩ 1 1 [.string P] rfl rfl (one_cell _ _) (one_one _) (by unfold maxLen; omega) (by omega) (by simp) ?_; intro v3 w3 ho3 hg3 _ hloc
           obtain ⟨g3, c3, rfl⟩ := ownsRow_succ ho3
           have ka := kept_alloc w2 (.cells #[.string P] 9)
           have bg := but_row hg3
           have T3 := (T2.kept ka).but bg hrow2
           have I3 := HA.out.rows _ _ 0 _ _ (HA.out.kept _ _ I2 ka) (OwnS.kept HO2.out ka) bg
           have n3 := T3.node _ _ HP.out
           have c0 := n3.c0
           have HN3 := Lib.hid n3
           have HT3 := Lib.hid T3
           have HI3 := Lib.hid I3
           have HO3 : Hid (OwnS w3 0 (.slice (some ⟨g3, 0, none⟩) (T.length + [p].length) c3) ((T ++ [p]).map Tp.join)) := by
             show w3.ownsRow _ _ _ _ _ _
             rw [List.length_map, List.length_append, List.map_append, List.map_append, List.map_singleton, List.map_singleton, str_of HPl.out]
             exact ho3
           have HB3 : Hid (But (fun i => (Value.slice a0 T.length cap0).ownBlock = some i) w w3) := (Kept.but ((k1.trans k2).trans ka)).trans bg (fun _ _ h => h)
           have HOF : Hid (Off (.slice a0 T.length cap0) (.slice (some ⟨g3, 0, none⟩) (T.length + [p].length) c3) w.heap.size) := by
             rcases hloc with h1 | h1
             · exact .inl h1
             · refine .inr (fun g hg => ?_)
               have h2 : some g = some _ := hg.symm.trans h1
               have := k1.size
               have := k2.size
               simp only [World.size_alloc, Option.some.injEq] at h2
               omega
           clear ho3 hg3 hloc ka bg T3 I3 n3 o2 hrow2 T2 I2 T1 I1 o1
           go_frame))
      go_wp2_with fail
      refine (keysS_any _ _).mono ?_
      rintro e w4 ⟨rfl, rfl⟩
      go_wp2_with fail
      refine (sorted_any w3 n l.c _ HN3.out.kids hn).mono ?_
      rintro e w5 ⟨vk, ks, rfl, hris, hks, hok, k5⟩
      have hklt := hok.lt
      obtain ⟨ak, ck, rfl⟩ := hok.form
      have HR := Lib.hid hris
      have HKS : Hid (∀ x, x ∈ ks ↔ (N (p ++ [x])).isSome = true) := fun x => by rw [hks]; simp
      have HOK := Lib.hid hok
      have HKL := Lib.hid hklt
      have hkl : ks.length ≤ 9223372036854775807 := by
        rcases hok.2 with ⟨_, h0⟩ | ⟨_, cap, _, e, _, _, h0, h1, _⟩
        · omega
        · unfold maxLen at h1; omega
      clear hris hks hok hklt
      go_wp2
      go_loopw [3, 26] (fun ov iv wr => ∃ (k : Nat) (L : List Path) (a6 : Option Addr) (c6 : Nat), k ≤ ks.length ∧ iv = .int .i64 k ∧ ov = .slice a6 (T.length + L.length) c6 ∧ OwnS wr 0 (.slice a6 (T.length + L.length) c6) ((T ++ L).map Tp.join) ∧ TrieAt wr n N A ∧ I wr ∧ Listed N want p (Dk p (ks.take k)) L ∧
          But (fun i => (Value.slice a0 T.length cap0).ownBlock = some i) w wr ∧ Off (.slice a0 T.length cap0) (.slice a6 (T.length + L.length) c6) w.heap.size ∧ OwnS wr (w3.heap.size + 1) (.slice ak ks.length ck) ks ∧ (∀ g, (Value.slice a6 (T.length + L.length) c6).ownBlock = some g → g < w3.heap.size ∨ w5.heap.size ≤ g) ∧ w5.heap.size ≤ wr.heap.size)
        (fun _ iv _ => ks.length - (intOf iv).toNat)
      case atStart =>
        exact ⟨0, [p], some ⟨g3, 0, none⟩, c3, Nat.zero_le _, rfl, rfl, OwnS.kept HO3.out k5, HT3.out.kept k5, HA.out.kept _ _ HI3.out k5, by rw [List.take_zero]; exact HL0.out, HB3.out.trans (k5.but (S := fun _ => False)) (fun _ _ h => h.elim), HOF.out, HOK.out, fun g hg => .inl ((World.ownsRow.lt HO3.out) g hg).2, Nat.le_refl _⟩
      case round =>
        obtain ⟨k, L, a6, c6, hk, rfl, rfl, ho6, T6, I6, L6, B6, F6, hok6, hg6, hs6⟩ := hrel
        have HO6 := Lib.hid ho6
        have HT6 := Lib.hid T6
        have HI6 := Lib.hid I6
        have HL6 := Lib.hid L6
        have HB6 := Lib.hid B6
        have HF6 := Lib.hid F6
        have HOK6 := Lib.hid hok6
        have HG6 := Lib.hid hg6
        clear ho6 T6 I6 L6 B6 F6 hok6 hg6
        by_cases hlt : k < ks.length
        · obtain ⟨ax, cx, ex, _, hcm, hx3⟩ := HOK6.out.strs
          cases ex
          rcases hx3 with hx3 | ⟨gk, off, rfl, hgk, hcx⟩
          · rw [hx3] at hlt; exact absurd hlt (by simp)
          · obtain ⟨x, cx0, lx⟩ := strs_at hcx k hlt
            rw [toList_eq] at lx
            obtain ⟨mx, hmx⟩ := Option.isSome_iff_exists.1 ((HKS.out ks[k]).1 (List.getElem_mem hlt))
            have hxg := (HT6.out.good _ _ hmx).2 ks[k] (by simp)
            have hxs : x.size ≤ 16 := by
              have := hxg.2.1
              rw [← lx] at this
              simpa using this
            have n6 := HT6.out.node _ _ HP.out
            have c6d := n6.c0
            have hlk := (n6.but (S := fun _ => False) (Kept.but (Kept.drew (Kept.refl wr))) id id id).kids.look1 (p := x) (by unfold maxLen; omega)
            rw [lx] at hlk
            simp only [hmx, Option.map_some] at hlk
            have HX := Lib.hid lx
            have HMX := Lib.hid hmx
            unfold maxLen at hcm
            clear lx hmx hxg n6 hcx
            go_wp2_with fail
            go_still_tail 11, (by kernel_rfl)
            still_call (below_text P x _ (by omega) (by omega))
            repeat still_step
            refine wpStill_nil ?_
            change wpList _ _ _ _ _ wr.drew
            have kd : Kept wr wr.drew := Kept.drew (Kept.refl wr)
            generalize wr.drew = wd at kd hlk ⊢
            have HNot := rising_not HR.out hlt
            have ih := IH.out wd (HT6.out.kept kd) (HA.out.kept _ _ HI6.out kd) (p ++ [ks[k]]) mx HMX.out (by simp; omega) (belowOf P x) (belowOf_list P x p _ HPl.out HX.out (fun y hy => (hgd.2 y hy).1)) (T ++ L) (keep_nodup HTn.out HTp.out HL6.out)
              (fun q hq => by
                rcases List.mem_append.1 hq with h1 | h1
                · exact HTS.out q h1
                · have := (HL6.out.mem q).1 h1
                  exact HSw.out q this.2.2.1 this.2.1)
              (fun q hq => by
                rcases List.mem_append.1 hq with h1 | h1
                · exact fun h2 => HTp.out q h1 ((List.prefix_append p [ks[k]]).trans h2)
                · exact HL6.out.under HNot h1)
              _ (OwnS.kept HO6.out kd)
            clear hlk
            go_wp2_with fail
            refine ih.mono ?_
            rintro e w7 ⟨v7, K, rfl, L7, o7, B7, F7⟩
            clear ih
            obtain ⟨a7, c7, rfl⟩ := o7.form
            have HL7 := Lib.hid L7
            have HO7 := Lib.hid o7
            have HB7 := Lib.hid B7
            have HF7 := Lib.hid F7
            clear L7 o7 B7 F7
            rw [List.length_map, List.length_append, List.length_append]
            go_wp2
            go_roundw
            case rel =>
              have hl7 : ((T ++ L ++ K).map Tp.join).length = T.length + (L ++ K).length := by simp
              have ho := HO7.out
              have hf := HF7.out
              rw [hl7] at ho hf
              rw [List.append_assoc] at ho
              have hrow := HT6.out.row_no HO6.out
              have bd : But (fun i => (Value.slice a6 (T.length + L.length) c6).ownBlock = some i) wr w7 := (Kept.but kd).trans HB7.out (fun _ _ h => h)
              refine ⟨k + 1, L ++ K, a7, c7, by omega, by go_num, by rw [List.length_append, Nat.add_assoc], ho, HT6.out.but bd hrow, HA.out.rows _ _ _ _ _ HI6.out HO6.out bd, by rw [take_snoc hlt]; exact HL6.out.join (by rw [← take_snoc hlt]; exact rising_take HR.out _) HL7.out, HB6.out.trans bd (fun i hi e => HF6.out.but hi e), ?_, row_but HOK6.out bd (fun i hi e => ?_), ?_, Nat.le_trans hs6 bd.size⟩
              · rcases hf with hf | hf
                · rcases HF6.out with h1 | h1
                  · exact .inl (hf.trans h1)
                  · exact .inr (fun g hg => h1 g (by rw [← hf]; exact hg))
                · exact .inr (fun g hg => by have := hf g hg; have := kd.size; have := HB6.out.size; omega)
              · have h1 := HKL.out i hi
                rcases HG6.out i e with h2 | h2 <;> omega
              · intro g hg
                rcases hf with hf | hf
                · exact HG6.out g (by rw [← hf]; exact hg)
                · have := hf g hg; have := kd.size; exact .inr (by omega)
            case measure => simp [intOf]; omega
        · have Hd := Lib.hid ((by have := HL6.out; rw [List.take_of_length_le (by omega)] at this; exact this.done_ HT6.out HKS.out : Listed N want p (fun _ => True) L))
          go_wp2
          go_ret
          exact ⟨_, L, rfl, Hd.out, HO6.out, HB6.out, HF6.out⟩
end Go.Proofs.YtalebnhkidhglaaGreat
