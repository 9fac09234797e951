/-
  The walk of a node's leave.
-/
import Derived.Test.YtalebnhkidhglaaGreatRdrop
namespace Go.Proofs.YtalebnhkidhglaaGreat
open Go.ChangeShapes Go.WideShapes Go.ChangeAt Go.RowKit Go.Maps

def KidD (D : DataW Unit) (kid : List UInt8 → Option Nat) : Prop := (∀ x, Maps.has D (.string x) = (kid x).isSome) ∧ ∀ x b, kid x = some b → ∀ z, D.atKey (.string x) z = .lit (.int .i64 b)
theorem owns_uniq {w : World} {P : Program} {k : TypeId} {R : Value → Option (DataW Unit × List MemPlace)} {b n n' : Nat} {D D' : DataW Unit} (h : w.ownsMap P k R b n D) (h' : w.ownsMap P k R b n' D') : D = D' := by
  obtain ⟨es, c, h1, _, _, rfl⟩ := h
  obtain ⟨es', c', h2, _, _, rfl⟩ := h'
  rw [h1] at h2
  cases h2
  rfl
theorem KidMap.tie {w : World} {n n' c : Nat} {kid : List UInt8 → Option Nat} (h : KidMap w n c kid) {D : DataW Unit} (hD : w.ownsMap Tryz.prog 9 kidElem c n' D) : KidD D kid := by
  obtain ⟨D', h1, h2⟩ := h
  rw [owns_uniq hD h1]
  exact h2

section
variable (w : World) {ops : Array Oper} {rest : List Oper} {o : Oper} {a : Act} {Q : Exit → Act → World → Prop}
/-- the next child -/
theorem wpList_next_kids (hg : o.guard = none) (it : Operand) (hop : o.op = Op.next it false) (N : Path → Option Loc) (p : Path) (c r n : Nat) (D : DataW Unit) (left : Lit → Bool) (cnt : Nat) (hit : a.eval it = .pointer (some ⟨r, 0, none⟩))
    (h : w.ranges Tryz.prog 9 kidElem c r n D left cnt) (hD : KidD D fun x => (N (p ++ [x])).map Loc.b)
    (hDone : (∀ kl, left kl = false) → cnt = 0 → wpList Tryz.prog ops Q rest (a.put o.dst (.tuple #[.bool false])) w)
    (hMore : ∀ (x : ByteArray) (m : Loc) (w' : World) (cnt' : Nat), x.size ≤ maxLen → left (.string x.data.toList) = true → N (p ++ [x.data.toList]) = some m → w'.ranges Tryz.prog 9 kidElem c r n D (fun z => left z && !z.sameKey (.string x.data.toList)) cnt' → cnt' < cnt →
      w.grownBy w' (some r) → w'.heap.size = w.heap.size → (Instr.entry (.pointer (some ⟨r, 0, none⟩))).run Tryz.prog w' = .ok (.tuple #[.string x, .pointer (some ⟨m.b, 0, none⟩)]) w' → wpList Tryz.prog ops Q rest (a.put o.dst (.tuple #[.bool true, .string x, .pointer (some ⟨m.b, 0, none⟩)])) w') :
    wpList Tryz.prog ops Q (o :: rest) a w :=
  wpList_next_ranges w hg it hop 9 lawS kidElem (Value.string) (fun o : Option Nat => .pointer (o.map fun b => ⟨b, 0, none⟩)) (fun key kl hk => by obtain ⟨s, rfl, _⟩ := keyStr_inv hk; exact ⟨s, rfl⟩)
    (fun v y hv => by
      rcases kidElem_inv hv with ⟨rfl, _⟩ | ⟨b, rfl, _⟩
      · exact ⟨none, rfl⟩
      · exact ⟨some b, rfl⟩)
    c r n D left cnt hit h (fun h0 hl => hDone hl h0) (fun x co kl y w' cnt' hkey hlk hv hat hrg hlt hgr hsz hen => by
      obtain ⟨x', ex, rfl, hsz'⟩ := keyStr_inv hkey
      cases ex
      have hhas := has_true_of_atKey hat
      rw [hD.1] at hhas
      obtain ⟨b, hb⟩ := Option.isSome_iff_exists.1 hhas
      have h2 := hD.2 _ b hb .nil
      rw [hat] at h2
      have hco : co = some b := by
        rcases kidElem_inv hv with ⟨_, rfl⟩ | ⟨b', e, rfl⟩
        · cases h2
        · have : (b' : Int) = b := by simpa using h2
          have hbb := Int.ofNat_inj.1 this
          subst hbb
          cases co with
          | none => cases e
          | some z => simp at e; rw [e]
      subst hco
      cases hm : N (p ++ [x.data.toList]) with
      | none => simp [hm] at hb
      | some m =>
        have hmb : m.b = b := by simpa [hm] using hb
        subst hmb
        exact hMore x m w' cnt' hsz' hlk hm hrg hlt hgr hsz hen)
end

theorem ranges_pruned {w w' : World} {c r n : Nat} {D : DataW Unit} {left : Lit → Bool} {cnt : Nat} {s : ByteArray} {idle : Prop} (hs : s.size ≤ maxLen)
    (h : w.ranges Tryz.prog 9 kidElem c r n D (fun z => left z && !z.sameKey (.string s.data.toList)) cnt) (hp : Pruned w w' c s idle) :
    ∃ D' cnt', cnt' ≤ cnt ∧ w'.ranges Tryz.prog 9 kidElem c r n D' (fun z => left z && !z.sameKey (.string s.data.toList)) cnt' := by
  rcases hp with ⟨_, w0, ty, k0, hrun⟩ | ⟨_, k⟩
  · obtain ⟨w2, cnt2, r2, h2, h3, _⟩ := (ranges_but (S := fun _ => False) h k0.but id id).drop lawS Tryz.underlying60 (WideMaps.keyOf_string_mk Tryz.underlying9 hs) ty
    rw [hrun] at r2
    cases r2
    rw [strike_twice] at h2
    exact ⟨_, cnt2, h3, h2⟩
  · exact ⟨D, cnt, Nat.le_refl _, ranges_but (S := fun _ => False) h k.but id id⟩

/-- of the paths from p on, those whose child has come -/
def Dn (p : Path) (left : Lit → Bool) (q : Path) : Prop := q = p ∨ ∃ x r, q = p ++ x :: r ∧ left (.string x) = false
theorem Dn.all {p q : Path} {left : Lit → Bool} (hl : ∀ kl, left kl = false) (h : p <+: q) : Dn p left q := by
  obtain ⟨r, rfl⟩ := h
  cases r with
  | nil => exact .inl (by simp)
  | cons x r => exact .inr ⟨x, r, rfl, hl _⟩
theorem sameKey_str (x y : List UInt8) : (Lit.string x).sameKey (.string y) = decide (x = y) := by
  by_cases e : x = y
  · subst e; simp [WideAt.sameKey_self (a := .string x) trivial]
  · rw [sameKey_ne (fun h => e (by cases h; rfl))]; simp [e]
theorem Dn.step {p q : Path} {left : Lit → Bool} {x : List UInt8} : Dn p (fun z => left z && !z.sameKey (.string x)) q ↔ Dn p left q ∨ p ++ [x] <+: q := by
  constructor
  · rintro (rfl | ⟨y, r, rfl, h⟩)
    · exact .inl (.inl rfl)
    · by_cases e : y = x
      · subst e; exact .inr ⟨r, by simp⟩
      · refine .inl (.inr ⟨y, r, rfl, ?_⟩)
        simpa [sameKey_str, e] using h
  · rintro ((rfl | ⟨y, r, rfl, h⟩) | ⟨r, rfl⟩)
    · exact .inl rfl
    · exact .inr ⟨y, r, rfl, by simp [h]⟩
    · exact .inr ⟨x, r, by simp, by simp [sameKey_str]⟩
theorem Dn.not_yet {p q : Path} {left : Lit → Bool} {x : List UInt8} (hx : left (.string x) = true) (h : p ++ [x] <+: q) : ¬ Dn p left q := by
  obtain ⟨r, rfl⟩ := h
  rintro (e | ⟨y, r', e, h⟩)
  · have := congrArg List.length e; simp at this
  · have : x = y := by simpa using congrArg List.head? (List.append_cancel_left (by simpa using e : p ++ (x :: r) = p ++ (y :: r')))
    subst this
    rw [hx] at h; cases h

/-- who asks, while i leaves -/
structure Gone (A A1 : Path → Int → Nat) (p : Path) (i : Int) (dn : Path → Prop) : Prop where
  off : ∀ q, p <+: q → dn q → A1 q i = 0
  on : ∀ q j, ¬ (p <+: q ∧ dn q ∧ j = i) → A1 q j = A q j
/-- the filters for which i asks -/
structure Asks (A : Path → Int → Nat) (p : Path) (i : Int) (dn : Path → Prop) (L : List Path) : Prop where
  once : L.Nodup
  mem : ∀ q, q ∈ L ↔ p <+: q ∧ 0 < A q i ∧ dn q
def Few (A : Path → Int → Nat) : Prop := ∃ S : List Path, S.length ≤ 1000000 ∧ ∀ q i, 0 < A q i → q ∈ S
theorem nodup_le {α : Type} [DecidableEq α] : ∀ {l S : List α}, l.Nodup → (∀ x ∈ l, x ∈ S) → l.length ≤ S.length
  | [], _, _, _ => Nat.zero_le _
  | x :: l, S, hn, hs => by
    obtain ⟨h1, h2⟩ := List.nodup_cons.1 hn
    have := nodup_le (l := l) (S := S.erase x) h2 (fun y hy => (List.mem_erase_of_ne (a := y) (b := x) (fun e => h1 (by rw [← e]; exact hy))).2 (hs y (by simp [hy])))
    have hx : x ∈ S := hs x (by simp)
    rw [List.length_erase_of_mem hx] at this
    have := List.length_pos_of_mem hx
    simp only [List.length_cons]
    omega
theorem Asks.le {A : Path → Int → Nat} {p : Path} {i : Int} {dn : Path → Prop} {L : List Path} (h : Asks A p i dn L) (hf : Few A) : L.length ≤ 1000000 := by
  obtain ⟨S, h1, h2⟩ := hf
  exact Nat.le_trans (nodup_le h.once (fun q hq => h2 q i ((h.mem q).1 hq).2.1)) h1
theorem Gone.few {A A1 : Path → Int → Nat} {p : Path} {i : Int} {dn : Path → Prop} (h : Gone A A1 p i dn) (hf : Few A) : Few A1 := by
  obtain ⟨S, h1, h2⟩ := hf
  refine ⟨S, h1, fun q j hq => ?_⟩
  by_cases e : p <+: q ∧ dn q ∧ j = i
  · obtain ⟨e1, e2, rfl⟩ := e
    rw [h.off q e1 e2] at hq; omega
  · rw [h.on q j e] at hq; exact h2 q j hq
theorem TrieAt.under_no {w : World} {n : Nat} {N : Path → Option Loc} {A : Path → Int → Nat} (hT : TrieAt w n N A) {p : Path} {l : Loc} (hp : N p = some l) (x : List UInt8) : ¬ Under N (p ++ [x]) l.c := by
  rintro ⟨r, lr, h1, h2, h3⟩
  rcases h3 with h3 | h3
  · have := (hT.inj p r l lr hp h2).1 h3
    subst this
    have := h1.length_le
    simp at this
    omega
  · exact (hT.inj p r l lr hp h2).2.2 h3
theorem TrieAt.iter_no {w : World} {n : Nat} {N : Path → Option Loc} {A : Path → Int → Nat} (hT : TrieAt w n N A) {P : Program} {k : TypeId} {R : Value → Option (DataW Unit × List MemPlace)} {b r m : Nat} {D : DataW Unit} {left : Lit → Bool} {cnt : Nat}
    (h : w.ranges P k R b r m D left cnt) : ¬ Of N r := by
  obtain ⟨es, clock, since, seen, c0, h1, h2, h3, h4, h5, h6⟩ := h
  exact hT.other h5 ⟨fun _ _ e => (by cases e), fun _ _ e => (by cases e)⟩

theorem Asks.join {A A1 : Path → Int → Nat} {p : Path} {i : Int} {left : Lit → Bool} {x : List UInt8} {L K : List Path} (hx : left (.string x) = true) (hG : Gone A A1 p i (Dn p left)) (hL : Asks A p i (Dn p left) L) (hK : Asks A1 (p ++ [x]) i (fun _ => True) K) :
    Asks A p i (Dn p fun z => left z && !z.sameKey (.string x)) (L ++ K) := by
  have e1 : ∀ q, p ++ [x] <+: q → A1 q i = A q i := fun q hq => hG.on q i (fun h => Dn.not_yet hx hq h.2.1)
  refine ⟨List.nodup_append.2 ⟨hL.once, hK.once, fun a ha b hb e => ?_⟩, fun q => ?_⟩
  · subst e
    exact Dn.not_yet hx ((hK.mem a).1 hb).1 ((hL.mem a).1 ha).2.2
  · rw [List.mem_append, hL.mem, hK.mem, Dn.step]
    constructor
    · rintro (⟨h1, h2, h3⟩ | ⟨h1, h2, _⟩)
      · exact ⟨h1, h2, .inl h3⟩
      · rw [e1 q h1] at h2
        exact ⟨(List.prefix_append p [x]).trans h1, h2, .inr h1⟩
    · rintro ⟨h1, h2, h3 | h3⟩
      · exact .inl ⟨h1, h2, h3⟩
      · exact .inr ⟨h3, by rw [e1 q h3]; exact h2, trivial⟩
theorem Gone.join {A A1 A2 : Path → Int → Nat} {p : Path} {i : Int} {left : Lit → Bool} {x : List UInt8} (hG : Gone A A1 p i (Dn p left)) (hK : Gone A1 A2 (p ++ [x]) i (fun _ => True)) :
    Gone A A2 p i (Dn p fun z => left z && !z.sameKey (.string x)) := by
  refine ⟨fun q hq hd => ?_, fun q j h => ?_⟩
  · by_cases e : p ++ [x] <+: q
    · exact hK.off q e trivial
    · rw [hK.on q i (fun h => e h.1)]
      rcases Dn.step.1 hd with h | h
      · exact hG.off q hq h
      · exact absurd h e
  · rw [hK.on q j (fun h' => h ⟨(List.prefix_append p [x]).trans h'.1, Dn.step.2 (.inr h'.1), h'.2.2⟩)]
    exact hG.on q j (fun h' => h ⟨h'.1, Dn.step.2 (.inl h'.2.1), h'.2.2⟩)

theorem Dn.wide {p q : Path} {left : Lit → Bool} (h : Dn p (fun _ => true) q) : Dn p left q := by
  rcases h with h | ⟨_, _, _, h⟩
  · exact .inl h
  · cases h
/-- the children that are not there have come already -/
theorem Dn.start {w : World} {n : Nat} {N : Path → Option Loc} {A A0 A1 : Path → Int → Nat} (hT : TrieAt w n N A0) {p : Path} {D : DataW Unit} (hD : KidD D (fun x => (N (p ++ [x])).map Loc.b)) {i : Int} {L : List Path} (h0 : ∀ q, N q = none → A q i = 0)
    (hG : Gone A A1 p i (Dn p fun _ => true)) (hL : Asks A p i (Dn p fun _ => true) L) : Gone A A1 p i (Dn p (Maps.has D)) ∧ Asks A p i (Dn p (Maps.has D)) L := by
  have none_of : ∀ q, Dn p (Maps.has D) q → ¬ Dn p (fun _ => true) q → A q i = 0 := by
    rintro q (h | ⟨x, r, rfl, h⟩) hn
    · exact absurd (.inl h) hn
    · rw [hD.1] at h
      have : N (p ++ [x]) = none := by
        cases e : N (p ++ [x]) with
        | none => rfl
        | some l => simp [e] at h
      have := hT.none_on r _ this
      exact h0 _ (by rw [← this]; simp)
  refine ⟨⟨fun q hq hd => ?_, fun q j hn => hG.on q j (fun h => hn ⟨h.1, Dn.wide h.2.1, h.2.2⟩)⟩, ⟨hL.once, fun q => ?_⟩⟩
  · by_cases e : Dn p (fun _ => true) q
    · exact hG.off q hq e
    · rw [hG.on q i (fun h => e h.2.1)]; exact none_of q hd e
  · rw [hL.mem]
    constructor
    · rintro ⟨h1, h2, h3⟩; exact ⟨h1, h2, Dn.wide h3⟩
    · rintro ⟨h1, h2, h3⟩
      refine ⟨h1, h2, ?_⟩
      by_cases e : Dn p (fun _ => true) q
      · exact e
      · have := none_of q h3 e; omega

theorem Moves.then_new {N N' : Path → Option Loc} {q : Path} {w w' w'' : World} {S : Nat → Prop} (h : Moves N N' q w w') (k : But S w' w'') (hS : ∀ i, i < w.heap.size → ¬ S i) : Moves N N' q w w'' :=
  ⟨h.but.trans k (fun i hi e => absurd e (hS i hi)), h.same, h.sub⟩

/-- all that leave does -/
def Left (N : Path → Option Loc) (A : Path → Int → Nat) (n : Nat) (p : Path) (i : Int) (w : World) (e : Ending) (w' : World) : Prop :=
  ∃ L, e = .returned (.int .i64 (L : List Path).length) ∧ Asks A p i (fun _ => True) L ∧ ∃ N' A', TrieAt w' n N' A' ∧ Gone A A' p i (fun _ => True) ∧ Moves N N' p w w'

set_option maxHeartbeats 2000000 in
set_option maxRecDepth 100000 in
theorem leave_any : ∀ (h : Nat) (w : World) (n : Nat) (N : Path → Option Loc) (A : Path → Int → Nat) (_ : TrieAt w n N A) (_ : Few A) (p : Path) (l : Loc) (_ : N p = some l) (_ : 9 ≤ p.length + h) (i : Int) (_ : (Lit.int .i64 i).wf = true),
    Calls Tryz.prog 27 #[.pointer (some ⟨l.b, 0, none⟩), .int .i64 i] w (Left N A n p i w)
  | 0, w, n, N, A, hT, hF, p, l, hp, hh, i, hi => by
    have := (hT.good p l hp).1
    omega
  | h + 1, w, n, N, A, hT, hF, p, l, hp, hh, i, hi => by
    have IH := Lib.hid (leave_any h)
    have hnode := hT.node _ _ hp
    have c0 := hnode.c0
    have c1 := hnode.c1
    have hlk := hnode.asks.look_ok hi
    have bc := hnode.bc hnode.asks.obj
    -- what is done ahead of the loop
    have START : ∃ (w1 : World) (A1 : Path → Int → Nat) (L : List Path), (if 0 < A p i then (Builtin.delete_ #[61, 3] 0 #[.map (some l.a), .int .i64 i]).run Tryz.prog w = .ok (.tuple #[]) w1 ∧ L = [p] else w1 = w ∧ L = []) ∧
        TrieAt w1 n N A1 ∧ Moves N N p w w1 ∧ Gone A A1 p i (Dn p fun z => true) ∧ Asks A p i (Dn p fun z => true) L := by
      by_cases h0 : 0 < A p i
      · obtain ⟨w1, r1, k1, g1⟩ := hnode.asks.del hi 0
        obtain ⟨T1, M1⟩ := hT.ask hp (Nat.le_refl _) k1 (upd_le (fun j => hT.few _ j) (Nat.zero_le _)) (but_grown g1)
        refine ⟨w1, _, [p], by rw [if_pos h0]; exact ⟨r1, rfl⟩, T1, M1, ⟨fun q hq hd => ?_, fun q j hn => ?_⟩, ⟨by simp, fun q => ?_⟩⟩
        · rcases hd with rfl | ⟨_, _, _, h⟩
          · rw [upd_same, upd_same]
          · cases h
        · by_cases e : q = p
          · subst e
            rw [upd_same, upd_other _ _ (fun e => hn ⟨List.prefix_refl q, .inl rfl, e⟩)]
          · rw [upd_other _ _ e]
        · rw [List.mem_singleton]
          constructor
          · rintro rfl; exact ⟨List.prefix_refl q, h0, .inl rfl⟩
          · rintro ⟨_, _, rfl | ⟨_, _, _, h⟩⟩
            · rfl
            · cases h
      · have h0' : A p i = 0 := by omega
        refine ⟨w, A, [], by rw [if_neg h0]; exact ⟨rfl, rfl⟩, hT, Moves.refl _ _ _, ⟨fun q hq hd => ?_, fun q j hn => rfl⟩, ⟨by simp, fun q => ?_⟩⟩
        · rcases hd with rfl | ⟨_, _, _, h⟩
          · exact h0'
          · cases h
        · constructor
          · intro h; cases h
          · rintro ⟨_, h2, rfl | ⟨_, _, _, h⟩⟩
            · omega
            · cases h
    obtain ⟨w1, A1, L, hrun, T1, M1, G1, K1⟩ := START
    have hp1 := T1.node _ _ hp
    have c0' := hp1.c0
    obtain ⟨D, hown, hD1⟩ := hp1.kids
    have HP := Lib.hid hp
    have HT1 := Lib.hid T1
    have HM1 := Lib.hid M1
    have HG1 := Lib.hid G1
    have HK1 := Lib.hid K1
    have HF := Lib.hid hF
    have HKD := Lib.hid hD1
    have H0 : Hid (∀ q, N q = none → A q i = 0) := fun q hq => hT.out q hq i
    clear hT hF hp hnode hp1 T1 M1 G1 K1 hD1
    by_cases h0 : 0 < A p i
    · rw [if_pos h0] at hrun
      obtain ⟨r1, rfl⟩ := hrun
      have hd : decide (0 < A p i) = true := by simp [h0]
      rw [hd] at hlk
      clear hd
      go_enter Tryz.func27, Tryz.ntmps27
      go_wp2_with (first
        | (at_range; refine wpList_range_own _ rfl _ 60 rfl 9 48 lawS Tryz.underlying60 _ l.c n D rfl hown ?_; intro w2 hrg0 hg0 hs0)
        | go_in)
      try go_frame
      go_loopw [5] (fun cv wr => ∃ (left : Lit → Bool) (cnt : Nat) (D1 : DataW Unit) (N1 : Path → Option Loc) (A2 : Path → Int → Nat) (K : List Path), cv = .int .i64 (K.length : Nat) ∧ wr.ranges Tryz.prog 9 kidElem l.c w1.heap.size n D1 left cnt ∧ TrieAt wr n N1 A2 ∧ N1 p = some l ∧ Gone A A2 p i (Dn p left) ∧ Asks A p i (Dn p left) K ∧ Moves N N1 p w wr)
        (fun _ wr => wr.rangeLeft l.c w1.heap.size)
      case atStart =>
        have k0 : Kept w1 w2 := But.kept (S := fun _ => False) ⟨hg0.os, hg0.tape, hg0.output, hg0.size, fun i hi _ => hg0.block i hi (by simp)⟩ (fun _ _ h => h)
        obtain ⟨G0, K0⟩ := Dn.start HT1.out HKD.out H0.out HG1.out HK1.out
        exact ⟨_, _, D, N, A1, [p], by rfl, hrg0, HT1.out.kept k0, HP.out, G0, K0, HM1.out.trans (Moves.of_kept N p k0)⟩
      case round =>
        obtain ⟨left, cnt, D1, N1, A2, K, rfl, hrg, T2, hp2, G2, K2, M2⟩ := hrel
        have Hrg := Lib.hid hrg
        have kl2 := K2.le HF.out
        have HT2 := Lib.hid T2
        have HP2 := Lib.hid hp2
        have HG2 := Lib.hid G2
        have HK2 := Lib.hid K2
        have HM2 := Lib.hid M2
        have hkd2 := (T2.node _ _ hp2).kids.tie hrg.owns
        clear T2 hp2 G2 K2 M2
        go_wp2_with (first
          | (at_next; refine wpList_next_kids _ rfl _ rfl N1 p l.c w1.heap.size n D1 left cnt rfl hrg hkd2 ?_ ?_)
          | go_in)
        · intro hl0 _
          go_wp2
          go_ret
          refine ⟨K, rfl, ⟨HK2.out.once, fun q => ?_⟩, N1, A2, HT2.out, ⟨fun q hq _ => HG2.out.off q hq (Dn.all hl0 hq), fun q j hn => HG2.out.on q j (fun h => hn ⟨h.1, trivial, h.2.2⟩)⟩, HM2.out⟩
          rw [HK2.out.mem]
          exact ⟨fun h => ⟨h.1, h.2.1, trivial⟩, fun h => ⟨h.1, h.2.1, Dn.all hl0 h.1⟩⟩
        · intro x m w3 cnt3 hxs hlx hm hrg3 hlt hg3 hs3 hen
          have hno := HT2.out.iter_no Hrg.out
          have T3 := HT2.out.but (but_grown hg3) (fun j hj e => hno (by subst e; exact hj))
          have M3 : Moves N N1 p w w3 := HM2.out.then_new (but_grown hg3) (fun j hj e => by subst e; have := HM1.out.but.size; omega)
          have ih := IH.out w3 n N1 A2 T3 (HG2.out.few HF.out) (p ++ [x.data.toList]) m hm (by simp; omega) i hi
          have HT3 := Lib.hid T3
          have HM3 := Lib.hid M3
          have Hm := Lib.hid hm
          have Hrg3 := Lib.hid hrg3
          have Hlx := Lib.hid hlx
          clear T3 M3 hm hrg3 hs3 hkd2 hrg hlx
          go_wp2_with fail
          refine ih.mono ?_
          rintro e w4 ⟨J, rfl, KJ, N4, A4, T4, G4, M4⟩
          have jl := KJ.le (HG2.out.few HF.out)
          have hp4 : N4 p = some l := by
            rw [M4.same p (fun h => by have := h.1.length_le; simp at this; omega)]
            exact HP2.out
          have hm4 : N4 (p ++ [x.data.toList]) = some m := by
            rw [M4.same _ (fun h => h.2 rfl)]
            exact Hm.out
          have hrg4 := ranges_but Hrg3.out M4.but (HT3.out.under_no HP2.out _) (fun h => hno h.of)
          have cpr := prune_raw w4 n l m _ _ _ _ (T4.node _ _ hp4) (T4.node _ _ hm4) x hxs (by simp [hm4])
          have HT4 := Lib.hid T4
          have HM4 := Lib.hid M4
          have HG4 := Lib.hid G4
          have HKJ := Lib.hid KJ
          have HP4 := Lib.hid hp4
          have Hm4 := Lib.hid hm4
          have Hrg4 := Lib.hid hrg4
          clear T4 M4 G4 KJ hp4 hm4 hrg4 ih
          go_wp2_with fail
          refine cpr.mono ?_
          rintro e w5 ⟨rfl, hpr⟩
          obtain ⟨N5, T5, M5⟩ := HT4.out.pruned HP4.out hxs Hm4.out hpr
          obtain ⟨D5, cnt5, hle5, hrg5⟩ := ranges_pruned hxs Hrg4.out hpr
          have hp5 : N5 p = some l := by
            rw [M5.same p (fun h => h.2 rfl)]
            exact HP4.out
          have HT5 := Lib.hid T5
          have HM5 := Lib.hid M5
          have Hrg5 := Lib.hid hrg5
          have HP5 := Lib.hid hp5
          clear T5 M5 hrg5 hp5 cpr hpr
          go_wp2
          go_roundw
          case rel => exact ⟨_, cnt5, D5, N5, A4, K ++ J, by rw [List.length_append]; go_num, Hrg5.out, HT5.out, HP5.out, HG2.out.join HG4.out, HK2.out.join Hlx.out HG2.out HKJ.out, (HM3.out.trans HM4.out.up).trans HM5.out⟩
          case measure => rw [Hrg5.out.left_eq, Hrg.out.left_eq]; omega
    · rw [if_neg h0] at hrun
      obtain ⟨e1, rfl⟩ := hrun
      obtain rfl : w = w1 := e1.symm
      have hd : decide (0 < A p i) = false := by simp [h0]
      rw [hd] at hlk
      clear hd
      go_enter Tryz.func27, Tryz.ntmps27
      go_wp2_with (first
        | (at_range; refine wpList_range_own _ rfl _ 60 rfl 9 48 lawS Tryz.underlying60 _ l.c n D rfl hown ?_; intro w2 hrg0 hg0 hs0)
        | go_in)
      try go_frame
      go_loopw [5] (fun cv wr => ∃ (left : Lit → Bool) (cnt : Nat) (D1 : DataW Unit) (N1 : Path → Option Loc) (A2 : Path → Int → Nat) (K : List Path), cv = .int .i64 (K.length : Nat) ∧ wr.ranges Tryz.prog 9 kidElem l.c w.heap.size n D1 left cnt ∧ TrieAt wr n N1 A2 ∧ N1 p = some l ∧ Gone A A2 p i (Dn p left) ∧ Asks A p i (Dn p left) K ∧ Moves N N1 p w wr)
        (fun _ wr => wr.rangeLeft l.c w.heap.size)
      case atStart =>
        have k0 : Kept w w2 := But.kept (S := fun _ => False) ⟨hg0.os, hg0.tape, hg0.output, hg0.size, fun i hi _ => hg0.block i hi (by simp)⟩ (fun _ _ h => h)
        obtain ⟨G0, K0⟩ := Dn.start HT1.out HKD.out H0.out HG1.out HK1.out
        exact ⟨_, _, D, N, A1, [], by rfl, hrg0, HT1.out.kept k0, HP.out, G0, K0, HM1.out.trans (Moves.of_kept N p k0)⟩
      case round =>
        obtain ⟨left, cnt, D1, N1, A2, K, rfl, hrg, T2, hp2, G2, K2, M2⟩ := hrel
        have Hrg := Lib.hid hrg
        have kl2 := K2.le HF.out
        have HT2 := Lib.hid T2
        have HP2 := Lib.hid hp2
        have HG2 := Lib.hid G2
        have HK2 := Lib.hid K2
        have HM2 := Lib.hid M2
        have hkd2 := (T2.node _ _ hp2).kids.tie hrg.owns
        clear T2 hp2 G2 K2 M2
        go_wp2_with (first
          | (at_next; refine wpList_next_kids _ rfl _ rfl N1 p l.c w.heap.size n D1 left cnt rfl hrg hkd2 ?_ ?_)
          | go_in)
        · intro hl0 _
          go_wp2
          go_ret
          refine ⟨K, rfl, ⟨HK2.out.once, fun q => ?_⟩, N1, A2, HT2.out, ⟨fun q hq _ => HG2.out.off q hq (Dn.all hl0 hq), fun q j hn => HG2.out.on q j (fun h => hn ⟨h.1, trivial, h.2.2⟩)⟩, HM2.out⟩
          rw [HK2.out.mem]
          exact ⟨fun h => ⟨h.1, h.2.1, trivial⟩, fun h => ⟨h.1, h.2.1, Dn.all hl0 h.1⟩⟩
        · intro x m w3 cnt3 hxs hlx hm hrg3 hlt hg3 hs3 hen
          have hno := HT2.out.iter_no Hrg.out
          have T3 := HT2.out.but (but_grown hg3) (fun j hj e => hno (by subst e; exact hj))
          have M3 : Moves N N1 p w w3 := HM2.out.then_new (but_grown hg3) (fun j hj e => by subst e; have := HM1.out.but.size; omega)
          have ih := IH.out w3 n N1 A2 T3 (HG2.out.few HF.out) (p ++ [x.data.toList]) m hm (by simp; omega) i hi
          have HT3 := Lib.hid T3
          have HM3 := Lib.hid M3
          have Hm := Lib.hid hm
          have Hrg3 := Lib.hid hrg3
          have Hlx := Lib.hid hlx
          clear T3 M3 hm hrg3 hs3 hkd2 hrg hlx
          go_wp2_with fail
          refine ih.mono ?_
          rintro e w4 ⟨J, rfl, KJ, N4, A4, T4, G4, M4⟩
          have jl := KJ.le (HG2.out.few HF.out)
          have hp4 : N4 p = some l := by
            rw [M4.same p (fun h => by have := h.1.length_le; simp at this; omega)]
            exact HP2.out
          have hm4 : N4 (p ++ [x.data.toList]) = some m := by
            rw [M4.same _ (fun h => h.2 rfl)]
            exact Hm.out
          have hrg4 := ranges_but Hrg3.out M4.but (HT3.out.under_no HP2.out _) (fun h => hno h.of)
          have cpr := prune_raw w4 n l m _ _ _ _ (T4.node _ _ hp4) (T4.node _ _ hm4) x hxs (by simp [hm4])
          have HT4 := Lib.hid T4
          have HM4 := Lib.hid M4
          have HG4 := Lib.hid G4
          have HKJ := Lib.hid KJ
          have HP4 := Lib.hid hp4
          have Hm4 := Lib.hid hm4
          have Hrg4 := Lib.hid hrg4
          clear T4 M4 G4 KJ hp4 hm4 hrg4 ih
          go_wp2_with fail
          refine cpr.mono ?_
          rintro e w5 ⟨rfl, hpr⟩
          obtain ⟨N5, T5, M5⟩ := HT4.out.pruned HP4.out hxs Hm4.out hpr
          obtain ⟨D5, cnt5, hle5, hrg5⟩ := ranges_pruned hxs Hrg4.out hpr
          have hp5 : N5 p = some l := by
            rw [M5.same p (fun h => h.2 rfl)]
            exact HP4.out
          have HT5 := Lib.hid T5
          have HM5 := Lib.hid M5
          have Hrg5 := Lib.hid hrg5
          have HP5 := Lib.hid hp5
          clear T5 M5 hrg5 hp5 cpr hpr
          go_wp2
          go_roundw
          case rel => exact ⟨_, cnt5, D5, N5, A4, K ++ J, by rw [List.length_append]; go_num, Hrg5.out, HT5.out, HP5.out, HG2.out.join HG4.out, HK2.out.join Hlx.out HG2.out HKJ.out, (HM3.out.trans HM4.out.up).trans HM5.out⟩
          case measure => rw [Hrg5.out.left_eq, Hrg.out.left_eq]; omega
end Go.Proofs.YtalebnhkidhglaaGreat
