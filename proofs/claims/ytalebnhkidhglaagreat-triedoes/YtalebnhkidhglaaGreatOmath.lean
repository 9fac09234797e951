/-
  Filters that no other one covers: the mathematics of layer 5.
-/
import Derived.Test.YtalebnhkidhglaaGreatTmath2
namespace Go.Proofs.YtalebnhkidhglaaGreat
namespace Tp

/-- texts in order, each once -/
def Ord (l : List L) : Prop := l.Pairwise fun a b => less a b = true

theorem ord_ext : ∀ {l m : List L}, Ord l → Ord m → (∀ x, x ∈ l ↔ x ∈ m) → l = m
  | [], [], _, _, _ => rfl
  | [], b :: m, _, _, h => absurd ((h b).2 (by simp)) (by simp)
  | a :: l, [], _, _, h => absurd ((h a).1 (by simp)) (by simp)
  | a :: l, b :: m, hl, hm, h => by
    obtain ⟨hl1, hl2⟩ := List.pairwise_cons.1 hl
    obtain ⟨hm1, hm2⟩ := List.pairwise_cons.1 hm
    have hab : a = b := by
      have h1 := (h a).1 (by simp)
      have h2 := (h b).2 (by simp)
      rcases List.mem_cons.1 h1 with e | h1
      · exact e
      rcases List.mem_cons.1 h2 with e | h2
      · exact e.symm
      have := less_trans (hl1 b h2) (hm1 a h1)
      rw [less_irrefl] at this
      cases this
    subst hab
    have : l = m := ord_ext hl2 hm2 fun x => by
      constructor
      · intro hx
        rcases List.mem_cons.1 ((h x).1 (by simp [hx])) with e | hx'
        · subst e; have := hl1 _ hx; rw [less_irrefl] at this; cases this
        · exact hx'
      · intro hx
        rcases List.mem_cons.1 ((h x).2 (by simp [hx])) with e | hx'
        · subst e; have := hm1 _ hx; rw [less_irrefl] at this; cases this
        · exact hx'
    rw [this]

/-- a text in its place, once -/
def ins (x : L) : List L → List L
  | [] => [x]
  | y :: l => if less y x = true then y :: ins x l else if y = x then y :: l else x :: y :: l
theorem ins_mem (x : L) : ∀ (l : List L) (z : L), z ∈ ins x l ↔ z = x ∨ z ∈ l
  | [], z => by simp [ins]
  | y :: l, z => by
    rw [ins]
    split
    · rw [List.mem_cons, ins_mem x l, List.mem_cons]
      constructor
      · rintro (h | h | h) <;> simp [h]
      · rintro (h | h | h) <;> simp [h]
    · split
      · rename_i h; subst h; simp
      · simp
theorem ins_ord (x : L) : ∀ (l : List L), Ord l → Ord (ins x l)
  | [], _ => List.pairwise_singleton _ _
  | y :: l, h => by
    obtain ⟨h1, h2⟩ := List.pairwise_cons.1 h
    rw [ins]
    split
    · rename_i hyx
      refine List.pairwise_cons.2 ⟨fun z hz => ?_, ins_ord x l h2⟩
      rcases (ins_mem x l z).1 hz with e | hz
      · subst e; exact hyx
      · exact h1 z hz
    · split
      · exact h
      · rename_i h3 h4
        have hxy : less x y = true := by
          rcases less_total h4 with ⟨a, _⟩ | ⟨_, a⟩
          · exact absurd a h3
          · exact a
        refine List.pairwise_cons.2 ⟨fun z hz => ?_, h⟩
        rcases List.mem_cons.1 hz with e | hz
        · subst e; exact hxy
        · exact less_trans hxy (h1 z hz)
/-- where the text goes: behind all that are ahead of it -/
theorem ins_at (x : L) : ∀ (l : List L) (k : Nat), k ≤ l.length → (∀ i (h : i < l.length), i < k → less l[i] x = true) → (∀ h : k < l.length, less l[k] x = false) →
    ins x l = if h : k < l.length then (if l[k] = x then l else l.take k ++ [x] ++ l.drop k) else l ++ [x]
  | [], k, hk, _, _ => by simp [ins]
  | y :: l, 0, _, _, h => by
    have := h (by simp)
    simp only [List.getElem_cons_zero] at this
    rw [ins, if_neg (by rw [this]; simp)]
    simp
  | y :: l, k + 1, hk, h1, h2 => by
    have h0 := h1 0 (by simp) (by omega)
    simp only [List.getElem_cons_zero] at h0
    rw [ins, if_pos h0, ins_at x l k (by simpa using hk) (fun i hi hik => h1 (i + 1) (by simpa using hi) (by omega)) (fun hkl => h2 (by simpa using hkl))]
    by_cases hkl : k < l.length
    · rw [dif_pos hkl, dif_pos (by simpa using hkl)]
      simp only [List.getElem_cons_succ]
      split
      · rfl
      · simp
    · rw [dif_neg hkl, dif_neg (by simpa using hkl)]
      simp

/-- the filters of a row, in order, each once -/
def cln : List L → List L → List L
  | acc, [] => acc
  | acc, x :: l => cln (if filter x = true then ins x acc else acc) l
theorem cln_spec : ∀ (l acc : List L), Ord acc → Ord (cln acc l) ∧ ∀ x, x ∈ cln acc l ↔ x ∈ acc ∨ (x ∈ l ∧ filter x = true)
  | [], acc, h => ⟨h, fun x => by simp [cln]⟩
  | y :: l, acc, h => by
    rw [cln]
    by_cases hy : filter y = true
    · rw [if_pos hy]
      obtain ⟨h1, h2⟩ := cln_spec l (ins y acc) (ins_ord y acc h)
      refine ⟨h1, fun x => ?_⟩
      rw [h2, ins_mem, List.mem_cons]
      constructor
      · rintro ((h | h) | h)
        · subst h; exact .inr ⟨.inl rfl, hy⟩
        · exact .inl h
        · exact .inr ⟨.inr h.1, h.2⟩
      · rintro (h | ⟨h | h, h3⟩)
        · exact .inl (.inr h)
        · exact .inl (.inl h)
        · exact .inr ⟨h, h3⟩
    · rw [if_neg hy]
      obtain ⟨h1, h2⟩ := cln_spec l acc h
      refine ⟨h1, fun x => ?_⟩
      rw [h2, List.mem_cons]
      constructor
      · rintro (h | h)
        · exact .inl h
        · exact .inr ⟨.inr h.1, h.2⟩
      · rintro (h | ⟨h | h, h3⟩)
        · exact .inl h
        · subst h; exact absurd h3 hy
        · exact .inr ⟨h, h3⟩
def clean (l : List L) : List L := cln [] l
theorem clean_ord (l : List L) : Ord (clean l) := (cln_spec l [] List.Pairwise.nil).1
theorem clean_mem (l : List L) (x : L) : x ∈ clean l ↔ x ∈ l ∧ filter x = true := by rw [clean, (cln_spec l [] List.Pairwise.nil).2]; simp
theorem clean_eq {l c : List L} (h1 : Ord c) (h2 : ∀ x, x ∈ c ↔ x ∈ l ∧ filter x = true) : c = clean l := ord_ext h1 (clean_ord l) fun x => by rw [h2, clean_mem]
theorem clean_congr {l m : List L} (h : ∀ x, x ∈ l ↔ x ∈ m) : clean l = clean m := clean_eq (clean_ord l) fun x => by rw [clean_mem, h]
theorem ins_len (x : L) : ∀ l : List L, (ins x l).length ≤ l.length + 1
  | [] => by simp [ins]
  | y :: l => by
    rw [ins]
    have := ins_len x l
    split
    · simp; exact this
    · split <;> simp
theorem cln_len : ∀ (l acc : List L), (cln acc l).length ≤ acc.length + l.length
  | [], acc => by simp [cln]
  | y :: l, acc => by
    rw [cln]
    have h1 := ins_len y acc
    split
    · have := cln_len l (ins y acc); simp; omega
    · have := cln_len l acc; simp; omega
theorem clean_len (l : List L) : (clean l).length ≤ l.length := by have := cln_len l []; simpa [clean] using this
theorem clean_snoc (l : List L) (x : L) : ∀ acc, cln acc (l ++ [x]) = if filter x = true then ins x (cln acc l) else cln acc l := by
  induction l with
  | nil => intro acc; simp [cln]
  | cons y l ih => intro acc; rw [List.cons_append, cln, ih, cln]

/-- x stays beside y -/
def stays (x y : L) : Bool := x == y || !covers y x || (less x y && covers x y)
/-- of a row those that no other one covers -/
def lst (c : List L) : List L := c.filter fun x => c.all fun y => stays x y
def least (l : List L) : List L := lst (clean l)
theorem lst_mem (c : List L) (x : L) : x ∈ lst c ↔ x ∈ c ∧ ∀ y ∈ c, stays x y = true := by rw [lst, List.mem_filter, List.all_eq_true]
theorem lst_ord {c : List L} (h : Ord c) : Ord (lst c) := List.Pairwise.filter _ h
theorem least_ord (l : List L) : Ord (least l) := lst_ord (clean_ord l)
theorem least_mem (l : List L) (x : L) : x ∈ least l ↔ (x ∈ l ∧ filter x = true) ∧ ∀ y, y ∈ l → filter y = true → stays x y = true := by
  rw [least, lst_mem, clean_mem]
  constructor
  · rintro ⟨h1, h2⟩; exact ⟨h1, fun y hy hf => h2 y ((clean_mem l y).2 ⟨hy, hf⟩)⟩
  · rintro ⟨h1, h2⟩; exact ⟨h1, fun y hy => h2 y ((clean_mem l y).1 hy).1 ((clean_mem l y).1 hy).2⟩
theorem least_congr {l m : List L} (h : ∀ x, x ∈ l ↔ x ∈ m) : least l = least m := by rw [least, least, clean_congr h]
theorem stays_iff (x y : L) : stays x y = true ↔ x = y ∨ covers y x = false ∨ (less x y = true ∧ covers x y = true) := by
  unfold stays; simp [Bool.or_eq_true, Bool.and_eq_true, or_assoc]

/-- over each filter of a row there is one that stays -/
theorem over (c : List L) (hf : ∀ y ∈ c, filter y = true) : ∀ (n : Nat) (x : L), x ∈ c → (c.filter fun y => covers y x && !stays x y).length ≤ n → ∃ m ∈ c, covers m x = true ∧ ∀ y ∈ c, stays m y = true
  | n, x, hx, hn => by
    by_cases h : ∀ y ∈ c, stays x y = true
    · exact ⟨x, hx, covers_refl (hf x hx), h⟩
    · simp only [Classical.not_forall] at h
      obtain ⟨y, hy, hs⟩ := h
      have hs' : ¬ (x = y ∨ covers y x = false ∨ (less x y = true ∧ covers x y = true)) := fun e => hs ((stays_iff x y).2 e)
      have hne : x ≠ y := fun e => hs' (.inl e)
      have hc : covers y x = true := by
        cases e : covers y x with
        | true => rfl
        | false => exact absurd (.inr (.inl e)) hs'
      have hn3 : ¬ (less x y = true ∧ covers x y = true) := fun e => hs' (.inr (.inr e))
      -- what is above y is above x
      have hsub : ∀ z, z ∈ c → (covers z y && !stays y z) = true → (covers z x && !stays x z) = true ∧ z ≠ y := by
        intro z _ hz
        rw [Bool.and_eq_true, Bool.not_eq_true'] at hz
        have hz' : ¬ (y = z ∨ covers z y = false ∨ (less y z = true ∧ covers y z = true)) := fun e => by rw [(stays_iff y z).2 e] at hz; cases hz.2
        have hzy : z ≠ y := fun e => hz' (.inl e.symm)
        refine ⟨?_, hzy⟩
        rw [Bool.and_eq_true, Bool.not_eq_true']
        refine ⟨covers_trans hz.1 hc, ?_⟩
        cases e : stays x z with
        | false => rfl
        | true =>
          rcases (stays_iff x z).1 e with e | e | ⟨e1, e2⟩
          · subst e
            -- x covers y, and y covers x: then y is ahead of x, and x behind
            exfalso
            have h1 : less x y = false := by cases q : less x y with | false => rfl | true => exact absurd ⟨q, hz.1⟩ hn3
            have h2 : less y x = false := by cases q : less y x with | false => rfl | true => exact absurd (.inr (.inr ⟨q, hc⟩)) hz'
            rcases less_total hne with ⟨a, _⟩ | ⟨_, a⟩
            · rw [h1] at a; cases a
            · rw [h2] at a; cases a
          · rw [covers_trans hz.1 hc] at e; cases e
          · exfalso
            have hyz : covers y z = true := covers_trans hc e2
            have hxy : covers x y = true := covers_trans e2 hz.1
            have h1 : less x y = false := by cases q : less x y with | false => rfl | true => exact absurd ⟨q, hxy⟩ hn3
            have h2 : less y z = false := by cases q : less y z with | false => rfl | true => exact absurd (.inr (.inr ⟨q, hyz⟩)) hz'
            have h3 : less y x = true := by rcases less_total hne with ⟨a, _⟩ | ⟨_, a⟩; rw [h1] at a; cases a; exact a
            rw [less_trans h3 e1] at h2; cases h2
      have hylt : (c.filter fun z => covers z y && !stays y z).length < (c.filter fun z => covers z x && !stays x z).length := by
        have hyin : y ∈ c.filter fun z => covers z x && !stays x z := by
          rw [List.mem_filter, Bool.and_eq_true, Bool.not_eq_true']
          refine ⟨hy, hc, ?_⟩
          cases e : stays x y with
          | false => rfl
          | true => exact absurd e hs
        have hsl : ((c.filter fun z => covers z y && !stays y z)).Sublist ((c.filter fun z => covers z x && !stays x z)) := by
          have : (c.filter fun z => covers z y && !stays y z) = (c.filter fun z => covers z x && !stays x z).filter fun z => covers z y && !stays y z := by
            rw [List.filter_filter]
            apply List.filter_congr
            intro z hz
            cases e : (covers z y && !stays y z) with
            | false => simp
            | true => rw [(hsub z hz e).1]; rfl
          rw [this]
          exact List.filter_sublist
        rcases Nat.lt_or_ge (c.filter fun z => covers z y && !stays y z).length (c.filter fun z => covers z x && !stays x z).length with q | q
        · exact q
        · have := hsl.eq_of_length_le q
          rw [← this, List.mem_filter] at hyin
          exact absurd rfl (hsub y hy hyin.2).2
      have hrec := over c hf (n - 1) y hy (by omega)
      obtain ⟨m, hm, hmc, hms⟩ := hrec
      exact ⟨m, hm, covers_trans hmc hc, hms⟩
  termination_by n => n
  decreasing_by
    omega

theorem less_asymm {a b : L} (h : less a b = true) : less b a = false := by
  cases e : less b a with
  | false => rfl
  | true => rw [← less_irrefl a, ← less_trans h e]
theorem least_over {l : List L} {x : L} (hx : x ∈ l) (hf : filter x = true) : ∃ m ∈ least l, covers m x = true := by
  obtain ⟨m, hm, hc, hs⟩ := over (clean l) (fun y hy => ((clean_mem l y).1 hy).2) _ x ((clean_mem l x).2 ⟨hx, hf⟩) (Nat.le_refl _)
  exact ⟨m, (lst_mem _ _).2 ⟨hm, hs⟩, hc⟩
theorem least_sub {l : List L} {x : L} (h : x ∈ least l) : x ∈ l ∧ filter x = true := ((least_mem l x).1 h).1
theorem least_apart {l : List L} {x y : L} (hx : x ∈ least l) (hy : y ∈ least l) (hne : x ≠ y) : covers x y = false := by
  have h1 := ((least_mem l x).1 hx).2 y (least_sub hy).1 (least_sub hy).2
  have h2 := ((least_mem l y).1 hy).2 x (least_sub hx).1 (least_sub hx).2
  rw [stays_iff] at h1 h2
  rcases h2 with e | e | ⟨e1, e2⟩
  · exact absurd e.symm hne
  · exact e
  · rcases h1 with e | e | ⟨e3, _⟩
    · exact absurd e hne
    · rw [e2] at e; cases e
    · rw [less_asymm e1] at e3; cases e3
theorem least_same {l : List L} {x y : L} (hx : x ∈ least l) (hy : y ∈ least l) (h : covers x y = true) : x = y := by
  by_cases e : x = y
  · exact e
  · rw [least_apart hx hy e] at h; cases h
/-- of a row and its least the least are the same, whatever else there is -/
theorem least_join (l m : List L) : least (least l ++ m) = least (l ++ m) := by
  refine ord_ext (least_ord _) (least_ord _) fun x => ?_
  rw [least_mem, least_mem]
  constructor
  · rintro ⟨⟨h1, hf⟩, h2⟩
    refine ⟨⟨?_, hf⟩, fun y hy hfy => ?_⟩
    · rcases List.mem_append.1 h1 with h | h
      · exact List.mem_append.2 (.inl (least_sub h).1)
      · exact List.mem_append.2 (.inr h)
    · rcases List.mem_append.1 hy with hy | hy
      · obtain ⟨z, hz, hzy⟩ := least_over hy hfy
        cases hs : stays x y with
        | true => rfl
        | false =>
          exfalso
          have hs' : ¬ (x = y ∨ covers y x = false ∨ (less x y = true ∧ covers x y = true)) := fun e => by rw [(stays_iff x y).2 e] at hs; cases hs
          have hne : x ≠ y := fun e => hs' (.inl e)
          have hc : covers y x = true := by
            cases e : covers y x with
            | true => rfl
            | false => exact absurd (.inr (.inl e)) hs'
          rcases (stays_iff x z).1 (h2 z (List.mem_append.2 (.inl hz)) (least_sub hz).2) with e | e | ⟨e1, e2⟩
          · subst e
            rw [((least_mem l x).1 hz).2 y hy hfy] at hs; cases hs
          · rw [covers_trans hzy hc] at e; cases e
          · have hxy : covers x y = true := covers_trans e2 hzy
            have hl : less x y = false := by
              cases q : less x y with
              | false => rfl
              | true => exact absurd (.inr (.inr ⟨q, hxy⟩)) hs'
            have hyx : less y x = true := by
              rcases less_total hne with ⟨a, _⟩ | ⟨_, a⟩
              · rw [hl] at a; cases a
              · exact a
            rcases (stays_iff z y).1 (((least_mem l z).1 hz).2 y hy hfy) with e | e | ⟨e3, _⟩
            · subst e; rw [hl] at e1; cases e1
            · rw [covers_trans hc e2] at e; cases e
            · rw [less_asymm (less_trans hyx e1)] at e3; cases e3
      · exact h2 y (List.mem_append.2 (.inr hy)) hfy
  · rintro ⟨⟨h1, hf⟩, h2⟩
    refine ⟨⟨?_, hf⟩, fun y hy hfy => h2 y ?_ hfy⟩
    · rcases List.mem_append.1 h1 with h | h
      · exact List.mem_append.2 (.inl ((least_mem l x).2 ⟨⟨h, hf⟩, fun y hy hfy => h2 y (List.mem_append.2 (.inl hy)) hfy⟩))
      · exact List.mem_append.2 (.inr h)
    · rcases List.mem_append.1 hy with h | h
      · exact List.mem_append.2 (.inl (least_sub h).1)
      · exact List.mem_append.2 (.inr h)
theorem append_comm_mem (l m : List L) (x : L) : x ∈ l ++ m ↔ x ∈ m ++ l := by rw [List.mem_append, List.mem_append, or_comm]
theorem least_join2 (l m : List L) : least (l ++ least m) = least (l ++ m) := by
  rw [least_congr (append_comm_mem l (least m)), least_join, least_congr (append_comm_mem m l)]
theorem least_least (l : List L) : least (least l) = least l := by
  have := least_join l []
  rwa [List.append_nil, List.append_nil] at this

def lets (l : List L) (t : L) : Bool := l.any fun x => match_ x t
def holds (l : List L) (f : L) : Bool := l.any fun x => covers x f
theorem lets_iff (l : List L) (t : L) : lets l t = true ↔ ∃ x ∈ l, match_ x t = true := by rw [lets, List.any_eq_true]
theorem holds_iff (l : List L) (t : L) : holds l t = true ↔ ∃ x ∈ l, covers x t = true := by rw [holds, List.any_eq_true]
theorem match_of {f t : L} (h : match_ f t = true) : filter f = true := by
  cases e : filter f with
  | true => rfl
  | false => rw [match_filter e] at h; cases h
theorem covers_of {f t : L} (h : covers f t = true) : filter f = true ∧ filter t = true := ⟨((covers_iff f t).1 h).1, ((covers_iff f t).1 h).2.1⟩
theorem lets_least (l : List L) (t : L) : lets (least l) t = lets l t := by
  rw [Bool.eq_iff_iff, lets_iff, lets_iff]
  constructor
  · rintro ⟨x, hx, h⟩; exact ⟨x, (least_sub hx).1, h⟩
  · rintro ⟨x, hx, h⟩
    obtain ⟨m, hm, hc⟩ := least_over hx (match_of h)
    exact ⟨m, hm, covers_match hc h⟩
theorem holds_least (l : List L) (t : L) : holds (least l) t = holds l t := by
  rw [Bool.eq_iff_iff, holds_iff, holds_iff]
  constructor
  · rintro ⟨x, hx, h⟩; exact ⟨x, (least_sub hx).1, h⟩
  · rintro ⟨x, hx, h⟩
    obtain ⟨m, hm, hc⟩ := least_over hx (covers_of h).1
    exact ⟨m, hm, covers_trans hc h⟩
theorem holds_mem {l : List L} {x : L} (hx : x ∈ l) (hf : filter x = true) : holds l x = true := (holds_iff l x).2 ⟨x, hx, covers_refl hf⟩
theorem ord_nodup {l : List L} (h : Ord l) : l.Nodup := by
  refine List.Pairwise.imp ?_ h
  intro a b h e; subst e; rw [less_irrefl] at h; cases h
theorem nodup_len : ∀ {l m : List L}, l.Nodup → (∀ x ∈ l, x ∈ m) → l.length ≤ m.length
  | [], _, _, _ => Nat.zero_le _
  | a :: l, m, h, hs => by
    obtain ⟨h1, h2⟩ := List.nodup_cons.1 h
    have ha := hs a (by simp)
    have := nodup_len (l := l) (m := m.erase a) h2 fun x hx => (List.mem_erase_of_ne (by rintro rfl; exact h1 hx)).2 (hs x (by simp [hx]))
    rw [List.length_erase_of_mem ha] at this
    have := List.length_pos_of_mem ha
    simp; omega
theorem least_len (l : List L) : (least l).length ≤ l.length := nodup_len (ord_nodup (least_ord l)) fun _ h => (least_sub h).1
theorem chain_len {l m : List L} (h1 : ∀ a ∈ least l, ∃ b ∈ least m, covers b a = true) (h2 : ∀ b ∈ least m, ∃ a ∈ least l, covers a b = true) : (least l).length ≤ (least m).length := by
  let g : L → L := fun a => if h : ∃ b ∈ least m, covers b a = true then h.choose else []
  have hg : ∀ a ∈ least l, g a ∈ least m ∧ covers (g a) a = true := by
    intro a ha
    have h := h1 a ha
    show (if h : ∃ b ∈ least m, covers b a = true then h.choose else []) ∈ least m ∧ _
    simp only [g, dif_pos h]
    exact h.choose_spec
  have hn : ((least l).map g).Nodup := by
    rw [List.Nodup, List.pairwise_map]
    refine List.Pairwise.imp_of_mem ?_ (ord_nodup (least_ord l))
    intro a b ha hb hne e
    obtain ⟨c, hc, hcb⟩ := h2 (g a) (hg a ha).1
    have e1 := least_same hc ha (covers_trans hcb (hg a ha).2)
    have e2 := least_same hc hb (covers_trans hcb (by rw [e]; exact (hg b hb).2))
    exact hne (e1.symm.trans e2)
  have := nodup_len hn (m := least m) fun x hx => by
    obtain ⟨a, ha, rfl⟩ := List.mem_map.1 hx
    exact (hg a ha).1
  simpa using this
/-- a filter that some already hold -/
theorem adds_len {l : List L} {f : L} (h : holds l f = true) : (least (l ++ [f])).length = (least l).length := by
  obtain ⟨z, hz, hc⟩ := (holds_iff (least l) f).1 (by rw [holds_least]; exact h)
  have a1 : ∀ a ∈ least l, ∃ b ∈ least (l ++ [f]), covers b a = true := fun a ha => least_over (List.mem_append.2 (.inl (least_sub ha).1)) (least_sub ha).2
  have a2 : ∀ b ∈ least (l ++ [f]), ∃ a ∈ least l, covers a b = true := by
    intro b hb
    rcases List.mem_append.1 (least_sub hb).1 with h | h
    · exact least_over h (least_sub hb).2
    · rw [List.mem_singleton] at h; subst h; exact ⟨z, hz, hc⟩
  exact Nat.le_antisymm (chain_len a2 a1) (chain_len a1 a2)
theorem adds_in {l : List L} {f : L} (hf : filter f = true) (h : holds l f = false) : f ∈ least (l ++ [f]) := by
  refine (least_mem _ _).2 ⟨⟨List.mem_append.2 (.inr (by simp)), hf⟩, fun y hy hfy => ?_⟩
  rcases List.mem_append.1 hy with hy | hy
  · refine (stays_iff f y).2 (.inr (.inl ?_))
    cases e : covers y f with
    | false => rfl
    | true => rw [(holds_iff l f).2 ⟨y, hy, e⟩] at h; cases h
  · rw [List.mem_singleton] at hy; subst hy; exact (stays_iff y y).2 (.inl rfl)
theorem adds_none {l : List L} {f : L} (hf : filter f = false) : least (l ++ [f]) = least l := by
  rw [least, least, clean_eq (l := l) (clean_ord (l ++ [f])) fun x => ?_]
  rw [clean_mem, List.mem_append, List.mem_singleton]
  constructor
  · rintro ⟨h | h, h2⟩
    · exact ⟨h, h2⟩
    · subst h; rw [hf] at h2; cases h2
  · rintro ⟨h, h2⟩; exact ⟨.inl h, h2⟩
theorem holds_none {l : List L} {f : L} (hf : filter f = false) : holds l f = false := by
  cases e : holds l f with
  | false => rfl
  | true =>
    obtain ⟨x, _, h⟩ := (holds_iff l f).1 e
    rw [(covers_of h).2] at hf; cases hf
theorem holds_adds {l : List L} {f : L} (hf : filter f = true) : holds (least (l ++ [f])) f = true := by rw [holds_least]; exact holds_mem (List.mem_append.2 (.inr (by simp))) hf
theorem holds_lets {l : List L} {f t : L} (h : holds l f = true) (hm : match_ f t = true) : lets l t = true := by
  obtain ⟨x, hx, hc⟩ := (holds_iff l f).1 h
  exact (lets_iff l t).2 ⟨x, hx, covers_match hc hm⟩
theorem lets_holds {l : List L} {t : L} (h : right t = true) : lets l t = holds l t := by
  rw [Bool.eq_iff_iff, lets_iff, holds_iff]
  constructor
  · rintro ⟨x, hx, h2⟩; exact ⟨x, hx, ((match_iff x t).1 h2).2⟩
  · rintro ⟨x, hx, h2⟩; exact ⟨x, hx, (match_iff x t).2 ⟨h, h2⟩⟩

/-- those of one row that are not in the other one -/
def wout (l m : List L) : List L := l.filter fun x => m.all fun y => x != y
theorem wout_mem (l m : List L) (x : L) : x ∈ wout l m ↔ x ∈ l ∧ x ∉ m := by
  rw [wout, List.mem_filter, List.all_eq_true]
  refine and_congr_right fun _ => ⟨fun h hx => ?_, fun h y hy => ?_⟩
  · simpa using h x hx
  · rw [bne_iff_ne]; rintro rfl; exact h hy
theorem wout_ord {l : List L} (m : List L) (h : Ord l) : Ord (wout l m) := List.Pairwise.filter _ h
theorem wout_none {l m : List L} (h : ∀ x ∈ l, x ∈ m) : wout l m = [] := by
  rw [List.eq_nil_iff_forall_not_mem]
  intro x hx
  exact ((wout_mem l m x).1 hx).2 (h x ((wout_mem l m x).1 hx).1)
/-- what was there, without what goes, and with what comes -/
theorem diffs (old now : List L) : clean (wout (clean old) (wout (clean old) (clean now)) ++ wout (clean now) (clean old)) = clean now := by
  refine clean_eq (clean_ord _) fun x => ?_
  rw [clean_mem, List.mem_append, wout_mem, wout_mem, wout_mem, clean_mem, clean_mem]
  constructor
  · rintro ⟨⟨h1, h2⟩ | ⟨h1, _⟩, hf⟩
    · by_cases hn : x ∈ now ∧ filter x = true
      · exact hn
      · exact absurd ⟨h1, hn⟩ h2
    · exact h1
  · rintro ⟨h1, hf⟩
    refine ⟨?_, hf⟩
    by_cases ho : x ∈ old ∧ filter x = true
    · exact .inl ⟨ho, fun h => h.2 ⟨h1, hf⟩⟩
    · exact .inr ⟨⟨h1, hf⟩, ho⟩
end Tp
end Go.Proofs.YtalebnhkidhglaaGreat
