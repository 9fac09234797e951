/-
  What follows of topics and filters: order, covering, letting by.
-/
import Derived.Test.YtlfmpoinjbmjoaaGreatDoorTfilter
namespace Go.Proofs.YtlfmpoinjbmjoaaGreatDoor
namespace Tp

/-! ### being ahead -/
theorem les_irrefl : ∀ a, les a a = false
  | [] => rfl
  | x :: a => by rw [les, if_pos rfl]; exact les_irrefl a
theorem les_total : ∀ a b, a ≠ b → (les a b = true ∧ les b a = false) ∨ (les a b = false ∧ les b a = true)
  | [], [], h => absurd rfl h
  | [], _ :: _, _ => .inl ⟨rfl, rfl⟩
  | _ :: _, [], _ => .inr ⟨rfl, rfl⟩
  | x :: a, y :: b, h => by
    by_cases e : x = y
    · subst e
      rw [les, les, if_pos rfl, if_pos rfl]
      exact les_total a b (fun k => h (by rw [k]))
    · rw [les, les, if_neg e, if_neg (fun k => e k.symm)]
      exact bl_total x y e
theorem les_trans : ∀ a b c, les a b = true → les b c = true → les a c = true
  | a, [], _, h, _ => by cases a <;> simp [les] at h
  | _, _ :: _, [], _, h => by simp [les] at h
  | [], _ :: _, _ :: _, _, _ => rfl
  | x :: a, y :: b, z :: c, h1, h2 => by
    rw [les] at h1 h2 ⊢
    by_cases e1 : x = y
    · subst e1
      rw [if_pos rfl] at h1
      by_cases e2 : x = z
      · subst e2
        rw [if_pos rfl] at h2 ⊢
        exact les_trans a b c h1 h2
      · rw [if_neg e2] at h2 ⊢; exact h2
    · rw [if_neg e1] at h1
      by_cases e2 : y = z
      · subst e2
        rw [if_neg e1]; exact h1
      · rw [if_neg e2] at h2
        have h3 := bl_trans x y z h1 h2
        rw [if_neg ?_]
        · exact h3
        · rintro rfl
          rw [bl_irrefl] at h3; cases h3
theorem less_total {a b : L} (h : a ≠ b) : (less a b = true ∧ less b a = false) ∨ (less a b = false ∧ less b a = true) := les_total _ _ fun e => h (lev_inj e)
theorem less_irrefl (a : L) : less a a = false := les_irrefl _
theorem less_trans {a b c : L} (h1 : less a b = true) (h2 : less b c = true) : less a c = true := les_trans _ _ _ h1 h2

/-! ### covering -/
theorem covers_refl {a : L} (h : filter a = true) : covers a a = true := (covers_iff a a).2 ⟨h, h, fun _ y _ _ hy => ⟨y, hy, ptw_refl y⟩⟩
theorem covers_trans {a b c : L} (h1 : covers a b = true) (h2 : covers b c = true) : covers a c = true := by
  obtain ⟨fa, fb, k1⟩ := (covers_iff a b).1 h1
  obtain ⟨_, fc, k2⟩ := (covers_iff b c).1 h2
  refine (covers_iff a c).2 ⟨fa, fc, fun n z h0 hn hz => ?_⟩
  obtain ⟨y, hy, p2⟩ := k2 n z h0 hn hz
  obtain ⟨x, hx, p1⟩ := k1 n y h0 hn hy
  exact ⟨x, hx, ptw_trans _ _ _ p1 p2⟩
/-- a filter has topics of one level at least -/
theorem row_one {b : L} (h : filter b = true) : ∃ n y, 1 ≤ n ∧ n ≤ 8 ∧ row (lev b) n = some y := by
  have hl := filter_len h
  cases hb : lev b with
  | nil => exact absurd hb (lev_ne b)
  | cons x xs =>
    rw [hb] at hl
    by_cases hx : x = hash
    · subst hx; exact ⟨1, _, Nat.le_refl _, by omega, row_hash xs 1⟩
    · obtain ⟨n, y, hn, e⟩ := row_some xs 7 (by simp at hl; omega)
      exact ⟨n + 1, x :: y, by omega, by omega, by rw [row_succ xs n hx, e]; rfl⟩
theorem covers_meet {a b : L} (h : covers a b = true) : meet a b = true := by
  obtain ⟨fa, fb, k⟩ := (covers_iff a b).1 h
  obtain ⟨n, y, h1, h2, hy⟩ := row_one fb
  obtain ⟨x, hx, p⟩ := k n y h1 h2 hy
  exact (meet_iff a b).2 ⟨fa, fb, n, x, y, h1, h2, hx, hy, mtw_of_ptw x y p⟩
theorem meet_refl {a : L} (h : filter a = true) : meet a a = true := covers_meet (covers_refl h)
theorem meet_comm (a b : L) : meet a b = meet b a := by
  rw [Bool.eq_iff_iff, meet_iff, meet_iff]
  constructor
  · rintro ⟨h1, h2, n, x, y, k1, k2, k3, k4, k5⟩
    exact ⟨h2, h1, n, y, x, k1, k2, k4, k3, by rw [mtw_comm]; exact k5⟩
  · rintro ⟨h1, h2, n, x, y, k1, k2, k3, k4, k5⟩
    exact ⟨h2, h1, n, y, x, k1, k2, k4, k3, by rw [mtw_comm]; exact k5⟩
theorem match_iff (f t : L) : match_ f t = true ↔ right t = true ∧ covers f t = true := by rw [match_, Bool.and_eq_true]
theorem covers_match {a b c : L} (h1 : covers a b = true) (h2 : match_ b c = true) : match_ a c = true := by
  rw [match_iff] at h2 ⊢
  exact ⟨h2.1, covers_trans h1 h2.2⟩
/-! ### topics -/
theorem right_len {s : L} (h : right s = true) : (lev s).length ≤ 8 := by rw [right, Bool.and_eq_true, decide_eq_true_eq] at h; exact h.1
theorem right_names {s : L} (h : right s = true) : names (lev s) = true := by rw [right, Bool.and_eq_true] at h; exact h.2
theorem names_mem {l : List L} (h : names l = true) : ∀ x ∈ l, name x = true := by rw [names, List.all_eq_true] at h; exact h
theorem name_ne_hash {x : L} (h : name x = true) : x ≠ hash := by rintro rfl; rw [name_hash] at h; cases h
theorem name_ne_plus {x : L} (h : name x = true) : x ≠ plus := by rintro rfl; rw [name_plus] at h; cases h
theorem part_of_name {x : L} (h : name x = true) : part x = true := by rw [part, h]; rfl
theorem right_filter {s : L} (h : right s = true) : filter s = true := by
  rw [filter, decide_eq_true (right_len h), filt_all _ ?_]; rfl
  rw [List.all_eq_true]
  exact fun x hx => part_of_name (names_mem (right_names h) x hx)
theorem row_plain : ∀ (l : List L), (∀ x ∈ l, x ≠ hash) → ∀ n y, row l n = some y → y = l ∧ n = l.length
  | [], _, 0, y, h => by simp [row] at h; exact ⟨h, rfl⟩
  | [], _, n + 1, y, h => by simp [row] at h
  | x :: l, hl, n, y, h => by
    have hx := hl x (by simp)
    cases n with
    | zero => rw [row_zero l hx] at h; cases h
    | succ n =>
      rw [row_succ l n hx] at h
      cases e : row l n with
      | none => rw [e] at h; cases h
      | some z =>
        rw [e] at h; cases h
        obtain ⟨rfl, rfl⟩ := row_plain l (fun x hx => hl x (by simp [hx])) n z e
        exact ⟨rfl, rfl⟩
theorem row_self : ∀ (l : List L), (∀ x ∈ l, x ≠ hash) → row l l.length = some l
  | [], _ => rfl
  | x :: l, hl => by
    rw [List.length_cons, row_succ l l.length (hl x (by simp)), row_self l (fun x hx => hl x (by simp [hx]))]; rfl
theorem right_nohash {s : L} (h : right s = true) : ∀ x ∈ lev s, x ≠ hash := fun x hx => name_ne_hash (names_mem (right_names h) x hx)
theorem mtw_two : ∀ x y c : List L, ptw x c = true → ptw y c = true → mtw x y = true
  | [], [], [], _, _ => rfl
  | x :: a, y :: b, c :: d, h1, h2 => by
    simp only [ptw, mtw, Bool.and_eq_true, Bool.or_eq_true, beq_iff_eq] at h1 h2 ⊢
    refine ⟨?_, mtw_two a b d h1.2 h2.2⟩
    rcases h1.1 with h | h
    · exact .inl (.inl h)
    · rcases h2.1 with k | k
      · exact .inl (.inr k)
      · exact .inr (h.trans k.symm)
  | [], [], _ :: _, h, _ => by simp [ptw] at h
  | [], _ :: _, [], _, h => by simp [ptw] at h
  | [], _ :: _, _ :: _, h, _ => by simp [ptw] at h
  | _ :: _, _, [], h, _ => by simp [ptw] at h
  | _ :: _, [], _ :: _, _, h => by simp [ptw] at h
theorem lev_pos (s : L) : 1 ≤ (lev s).length := by
  cases h : lev s with
  | nil => exact absurd h (lev_ne s)
  | cons x xs => simp
theorem match_meet {a b c : L} (h1 : match_ a c = true) (h2 : match_ b c = true) : meet a b = true := by
  obtain ⟨rc, k1⟩ := (match_iff a c).1 h1
  obtain ⟨_, k2⟩ := (match_iff b c).1 h2
  obtain ⟨fa, _, k1⟩ := (covers_iff a c).1 k1
  obtain ⟨fb, _, k2⟩ := (covers_iff b c).1 k2
  have hr := row_self _ (right_nohash rc)
  obtain ⟨x, hx, p1⟩ := k1 _ _ (lev_pos c) (right_len rc) hr
  obtain ⟨y, hy, p2⟩ := k2 _ _ (lev_pos c) (right_len rc) hr
  exact (meet_iff a b).2 ⟨fa, fb, _, x, y, lev_pos c, right_len rc, hx, hy, mtw_two x y _ p1 p2⟩
theorem cov_plain : ∀ a b : List L, names a = true → names b = true → cov a b = (a == b)
  | [], [], _, _ => rfl
  | [], _ :: _, _, _ => rfl
  | x :: _, [], h, _ => by
    have := name_ne_hash (names_mem h x (by simp))
    rw [cov]; simp [this]
  | x :: a, y :: b, h1, h2 => by
    have n1 := names_mem h1 x (by simp)
    have n2 := names_mem h2 y (by simp)
    have r1 : names a = true := by rw [names, List.all_cons, Bool.and_eq_true] at h1; exact h1.2
    have r2 : names b = true := by rw [names, List.all_cons, Bool.and_eq_true] at h2; exact h2.2
    rw [cov, if_neg (name_ne_hash n1), if_neg (name_ne_hash n2), cov_plain a b r1 r2]
    have : (x == plus) = false := by rw [beq_eq_false_iff_ne]; exact name_ne_plus n1
    rw [this]; rfl
theorem right_ne_hash {s : L} (h : right s = true) : s ≠ hash := by
  rintro rfl; exact absurd h (by decide)
theorem match_by {f t : L} (h : right t = true) : match_ f t = (filter f && cov (lev f) (lev t)) := by
  rw [match_, h, covers, right_filter h, wide_lev (right_ne_hash h)]; simp
theorem match_right {f t : L} (h : right t = false) : match_ f t = false := by rw [match_, h]; rfl
theorem match_filter {f t : L} (h : filter f = false) : match_ f t = false := by rw [match_, covers, h]; simp
theorem match_plain {s t : L} (h : right s = true) : match_ s t = (s == t) := by
  cases ht : right t with
  | false =>
    rw [match_right ht]
    refine (beq_eq_false_iff_ne.2 ?_).symm
    rintro rfl
    rw [h] at ht; cases ht
  | true =>
    rw [match_by ht, right_filter h, cov_plain _ _ (right_names h) (right_names ht), Bool.true_and, Bool.eq_iff_iff, beq_iff_eq, beq_iff_eq]
    exact ⟨lev_inj, fun e => by rw [e]⟩
theorem lev_hash_eq : lev hash = [hash] := rfl
theorem match_hash (s : L) : match_ hash s = right s := by
  cases h : right s with
  | false => exact match_right h
  | true =>
    rw [match_by h, lev_hash_eq]
    cases hl : lev s with
    | nil => exact absurd hl (lev_ne s)
    | cons x xs => rw [cov, if_pos rfl]; rfl
/-- a filter with # behind it -/
theorem lev_rest (f : L) : lev (f ++ [47, 35]) = lev f ++ [hash] := lev_join f hash
theorem cov_rest_self : ∀ a : List L, a.all part = true → cov (a ++ [hash]) a = true
  | [], _ => rfl
  | x :: a, h => by
    rw [List.all_cons, Bool.and_eq_true] at h
    have hx : x ≠ hash := by rintro rfl; rw [part_hash] at h; cases h.1
    rw [List.cons_append, cov, if_neg hx, if_neg hx, cov_rest_self a h.2]; simp
theorem match_rest_self {s : L} (h : right s = true) : match_ (s ++ [47, 35]) s = filter (s ++ [47, 35]) := by
  rw [match_by h, lev_rest, cov_rest_self _ ?_, Bool.and_true]
  rw [List.all_eq_true]
  exact fun x hx => part_of_name (names_mem (right_names h) x hx)

/-! ### a level in front -/
theorem lev_front {x : L} (hx : ∀ c ∈ x, c ≠ 47) (f : L) : lev (x ++ 47 :: f) = x :: lev f := lev_cut x f hx
theorem right_front {x : L} (hx : name x = true) (hs : ∀ c ∈ x, c ≠ 47) {s : L} (h : (lev s).length < 8) : right (x ++ 47 :: s) = right s := by
  rw [right, right, lev_front hs, List.length_cons, decide_eq_true (show (lev s).length + 1 ≤ 8 by omega), decide_eq_true (show (lev s).length ≤ 8 by omega), names, List.all_cons, hx]
  rfl
theorem filt_cons {x : L} {l : List L} (h : l ≠ []) : filt (x :: l) = (part x && filt l) := by
  cases l with
  | nil => exact absurd rfl h
  | cons y l => rfl
theorem filter_front {x : L} (hx : part x = true) (hs : ∀ c ∈ x, c ≠ 47) {f : L} (h : (lev f).length < 8) : filter (x ++ 47 :: f) = filter f := by
  rw [filter, filter, lev_front hs, List.length_cons, decide_eq_true (show (lev f).length + 1 ≤ 8 by omega), decide_eq_true (show (lev f).length ≤ 8 by omega), filt_cons (lev_ne f), hx]
  rfl
theorem match_front {x y : L} (hx : part x = true) (hxs : ∀ c ∈ x, c ≠ 47) (hy : name y = true) (hys : ∀ c ∈ y, c ≠ 47) {f s : L} (hf : (lev f).length < 8) (hs : (lev s).length < 8) :
    match_ (x ++ 47 :: f) (y ++ 47 :: s) = ((x == plus || x == y) && match_ f s) := by
  have hxh : x ≠ hash := by rintro rfl; rw [part_hash] at hx; cases hx
  cases hr : right s with
  | false =>
    rw [match_right hr, match_right (by rw [right_front hy hys hs, hr])]; simp
  | true =>
    have hr2 : right (y ++ 47 :: s) = true := by rw [right_front hy hys hs, hr]
    rw [match_by hr, match_by hr2, filter_front hx hxs hf, lev_front hxs, lev_front hys, cov, if_neg hxh, if_neg (name_ne_hash hy)]
    cases filter f <;> cases (x == plus || x == y) <;> simp
theorem cov_same : ∀ a : List L, cov a a = true
  | [] => rfl
  | x :: a => by
    rw [cov]
    by_cases h : x = hash
    · rw [if_pos h]
    · rw [if_neg h, if_neg h, cov_same a]; simp
theorem covers_front {x y : L} (hx : part x = true) (hxs : ∀ c ∈ x, c ≠ 47) (hy : name y = true) (hys : ∀ c ∈ y, c ≠ 47) (hxy : (x == plus || x == y) = true) {f : L} (hf : (lev f).length < 8) :
    covers (x ++ 47 :: f) (y ++ 47 :: f) = filter f := by
  have hxh : x ≠ hash := by rintro rfl; rw [part_hash] at hx; cases hx
  have hne : y ++ 47 :: f ≠ hash := by
    intro e
    have := congrArg lev e
    rw [lev_front hys, lev_hash_eq] at this
    simp only [List.cons.injEq] at this
    exact lev_ne f this.2
  rw [covers, filter_front hx hxs hf, filter_front (part_of_name hy) hys hf, wide_lev hne, lev_front hxs, lev_front hys, cov, if_neg hxh, if_neg (name_ne_hash hy), hxy, cov_same]
  simp

/-! ### # behind -/
theorem filter_rest {f : L} (h : filter (f ++ [47, 35]) = true) : (lev f).all part = true ∧ filter f = true := by
  rw [filter, lev_rest, Bool.and_eq_true, decide_eq_true_eq, filt_app, Bool.and_eq_true] at h
  refine ⟨h.2.1, ?_⟩
  rw [filter, filt_all _ h.2.1, decide_eq_true (by have := h.1; rw [List.length_append] at this; omega)]
  rfl
/-- what a filter with # behind it lets by goes on from what it lets by -/
theorem cov_rest : ∀ (a t : List L), a.all part = true → (∀ x ∈ t, x ≠ hash) → (cov (a ++ [hash]) t = true ↔ ∃ k, k ≤ t.length ∧ cov a (t.take k) = true)
  | [], t, _, _ => by
    refine ⟨fun _ => ⟨0, Nat.zero_le _, rfl⟩, fun _ => ?_⟩
    cases t with
    | nil => rfl
    | cons y t => rw [List.nil_append, cov, if_pos rfl]
  | x :: a, [], h, _ => by
    have hx : x ≠ hash := by rintro rfl; rw [List.all_cons, part_hash] at h; cases h
    rw [List.cons_append, cov]
    refine ⟨fun k => absurd (eq_of_beq k) hx, ?_⟩
    rintro ⟨k, _, hk⟩
    rw [List.take_nil, cov] at hk
    exact absurd (eq_of_beq hk) hx
  | x :: a, y :: t, h, ht => by
    have hx : x ≠ hash := by rintro rfl; rw [List.all_cons, part_hash] at h; cases h
    have hy : y ≠ hash := ht y (by simp)
    rw [List.all_cons, Bool.and_eq_true] at h
    rw [List.cons_append, cov, if_neg hx, if_neg hy, Bool.and_eq_true, cov_rest a t h.2 (fun z hz => ht z (by simp [hz]))]
    constructor
    · rintro ⟨h1, k, hk, h2⟩
      exact ⟨k + 1, by simp; omega, by rw [List.take_succ_cons, cov, if_neg hx, if_neg hy, h1, h2]; rfl⟩
    · rintro ⟨k, hk, h2⟩
      cases k with
      | zero => rw [List.take_zero, cov] at h2; exact absurd (eq_of_beq h2) hx
      | succ k =>
        rw [List.take_succ_cons, cov, if_neg hx, if_neg hy, Bool.and_eq_true] at h2
        exact ⟨h2.1, k, by simp at hk; omega, h2.2⟩
theorem covers_rest {f : L} (h : filter (f ++ [47, 35]) = true) : covers (f ++ [47, 35]) f = true := by
  obtain ⟨hp, hf⟩ := filter_rest h
  have hne : f ≠ hash := by rintro rfl; exact absurd hp (by decide)
  rw [covers, h, hf, wide_lev hne, lev_rest, cov_rest_self _ hp]; rfl
end Tp
end Go.Proofs.YtlfmpoinjbmjoaaGreatDoor
