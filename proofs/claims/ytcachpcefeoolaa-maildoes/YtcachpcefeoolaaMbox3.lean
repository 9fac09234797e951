/-
  The walks of All, Copy and Turn.
-/
import Derived.Test.YtcachpcefeoolaaMbox2
namespace Go.Proofs.Ytcachpcefeoolaa
open Go.ChangeShapes Go.WideShapes Go.ChangeAt Go.RowKit

set_option maxHeartbeats 400000 in
theorem copy_any (b c cap : Nat) (l : List ByteArray) (w : World) (h : Bx w b c cap l) :
    Calls Try.prog 20 #[.pointer (some ⟨b, 0, none⟩)] w fun e w' => ∃ b' c', e = .returned (.pointer (some ⟨b', 0, none⟩)) ∧ w.heap.size ≤ b' ∧ w.heap.size ≤ c' ∧ Bx w' b' c' cap l ∧ Bx w' b c cap l ∧ But (fun i => i = c) w w' := by
  have hc := h.cell
  have H := Lib.hid h
  clear h
  go_enter Try.func20, Try.ntmps20
  go_wp2_with fail
  refine (rtwin_any c cap l _ H.out.ch H.out.few H.out.room).mono ?_
  rintro e w1 ⟨d, rfl, hd, ch1, ch2, b1⟩
  have B1 := Lib.hid (H.out.turn b1 ch2 H.out.few H.out.small)
  have K1 := Lib.hid b1
  have C1 := Lib.hid ch1
  clear ch1 ch2 b1
  go_wp2
  go_ret
  exact ⟨_, d, rfl, K1.out.size, hd, ⟨heap_alloc_new w1 _, C1.out.kept ((Kept.refl w1).alloc _), H.out.few, H.out.room, H.out.small⟩, B1.out.kept ((Kept.refl w1).alloc _), K1.out.trans ((Kept.refl w1).alloc _).but fun _ _ h => h⟩

/-- one more text behind a row of the call's own -/
theorem wp_snoc {w : World} {ops : Array Oper} {rest : List Oper} {o : Oper} {a : Act} {Q : Exit → Act → World → Prop} {base : Nat} {v : Value} {xs : List (List UInt8)}
    (hown : OwnS w base v xs) (hx : xs.length ≤ 1000001) (hbase : base ≤ w.heap.size) (p : ByteArray) (hgd : o.guard = none) (s x : Operand)
    (ho : o.op = .call { callee := .builtin .append, args := #[s, x], argTypes := #[36, 36] }) (hs : a.eval s = v) (hxe : a.eval x = .slice (some ⟨w.heap.size, 0, none⟩) 1 1)
    (h : ∀ g cap w', OwnS w' base (.slice (some ⟨g, 0, none⟩) (xs.length + 1) cap) (xs ++ [p.data.toList]) → Below base w w' → But (fun i => v.ownBlock = some i) w w' → wpList Try.prog ops Q rest (a.put o.dst (.slice (some ⟨g, 0, none⟩) (xs.length + 1) cap)) w') :
    wpList Try.prog ops Q (o :: rest) a (w.alloc (.cells #[.string p] 9)) := by
  obtain ⟨i0, hi, hz0, hz1, hz2⟩ := info_parts infoStr
  refine wpList_append_own _ hgd s x 36 ho base 9 i0 (.string ⟨#[]⟩) 1 16 Try.underlying36 hi hz0 hz1 hz2 rfl (by decide) v xs.length (xs.map str) hs (World.ownsRow.alloc hown _) ⟨w.heap.size, 0, none⟩ 1 1 [.string p] hxe rfl (one_cell _ _) (one_one _) (by unfold maxLen; omega) (by omega) (by simp; omega) ?_
  intro v' w' hown' hgrow _
  obtain ⟨g, cap, rfl⟩ : ∃ g cap, v' = .slice (some ⟨g, 0, none⟩) (xs.length + 1) cap := by
    rcases hown'.2 with ⟨_, h0⟩ | ⟨g, cap, _, rfl, _⟩
    · omega
    · exact ⟨g, cap, rfl⟩
  refine h g cap w' (own_snoc (x := p.data.toList) rfl hown') (((Below.refl base w).alloc hbase _).grown hgrow (by simp; omega) fun k hk => ?_) (((Kept.refl w).alloc _).but.trans (but_row hgrow) fun _ _ h => h)
  rcases hown.2 with ⟨rfl, _⟩ | ⟨g', cap', _, rfl, hb, _⟩
  · cases hk
  · cases hk; exact hb

/-- texts as rows of bytes -/
def txs (l : List ByteArray) : List (List UInt8) := l.map fun x => x.data.toList
theorem txs_len (l : List ByteArray) : (txs l).length = l.length := by simp [txs]

theorem But.below {S : Nat → Prop} {a w w' : World} (h : But S a w) (k : Below a.heap.size w w') : But S a w' :=
  ⟨k.os.trans h.os, k.tape.trans h.tape, k.output.trans h.output, Nat.le_trans h.size (Below.size k), fun i hi hn => (Below.block k i hi).trans (h.block i hi hn)⟩
theorem Bx.below {n : Nat} {w w' : World} {b c cap : Nat} {l : List ByteArray} (h : Bx w b c cap l) (k : Below n w w') (hb : b < n) (hc : c < n) : Bx w' b c cap l :=
  ⟨(Below.block k b hb).trans h.blk, let ⟨s, r, e⟩ := h.ch; ⟨s, r, (Below.block k c hc).trans e⟩, h.few, h.room, h.small⟩
theorem OwnS.form {w : World} {base : Nat} {v : Value} {xs : List (List UInt8)} (h : OwnS w base v xs) : ∃ a cap, v = .slice a xs.length cap := by
  obtain ⟨a, cap, rfl, _⟩ := h.strs
  exact ⟨a, cap, rfl⟩
/-- how many a slice has -/
def sliceLen : Value → Nat
  | .slice _ n _ => n
  | _ => 0
theorem OwnS.but {S : Nat → Prop} {w w' : World} {base : Nat} {v : Value} {xs : List (List UInt8)} (h : OwnS w base v xs) (k : But S w w') (hs : ∀ i, S i → i < base) : OwnS w' base v xs := by
  refine ⟨h.1, ?_⟩
  rcases h.2 with hn | ⟨g, cap, cur, hv, hb, hg, rest⟩
  · exact .inl hn
  · exact .inr ⟨g, cap, cur, hv, hb, k.at hg (fun e => by have := hs g e; omega), rest⟩

set_option maxHeartbeats 1000000 in
set_option maxRecDepth 100000 in
theorem all_any (b c cap : Nat) (l : List ByteArray) (w : World) (h : Bx w b c cap l) :
    Calls Try.prog 18 #[.pointer (some ⟨b, 0, none⟩)] w fun e w' => ∃ v, e = .returned v ∧ OwnS w' w.heap.size v (txs l) ∧ Bx w' b c cap [] ∧ But (fun i => i = c) w w' := by
  have hbl := heap_lt h.blk
  have hcl := h.ch.lt
  have hll := h.few
  have hcc := h.room
  have H := Lib.hid h
  clear h
  go_enter Try.func18, Try.ntmps18
  go_wp2_with fail
  refine (take_any b c cap l _ H.out).mono ?_
  rintro e w1 ⟨rfl, h1, b1⟩
  unfold tells
  have H1 := Lib.hid h1
  have B1 := Lib.hid b1
  clear h1 b1
  go_wp2
  go_loopw [3, 4, 5] (fun v sv ov wr => ∃ k : Nat, k ≤ l.length ∧ OwnS wr w.heap.size v (txs (l.take k)) ∧ sv = .string (hd (l.drop k)) ∧ ov = .bool (decide (0 < (l.drop k).length)) ∧ Bx wr b c cap (l.drop k).tail ∧ But (fun i => i = c) w wr) (fun v _ _ _ => l.length - sliceLen v)
  case atStart => exact ⟨0, Nat.zero_le _, OwnS.nil _ _, by simp, by simp, H1.out, B1.out⟩
  case round =>
    obtain ⟨k, hk, hv, rfl, rfl, hx, hb⟩ := hrel
    have hkx : (l.take k).length = k := by rw [List.length_take]; omega
    obtain ⟨av, vc, rfl⟩ := hv.form
    rw [txs_len, hkx] at hv ⊢
    have Hv := Lib.hid hv
    have Hx := Lib.hid hx
    have Hb := Lib.hid hb
    have hbs := hb.size
    clear hv hx hb
    by_cases hkl : k < l.length
    · have e1 : l.drop k = l[k] :: l.drop (k + 1) := List.drop_eq_getElem_cons hkl
      have e2 : l.take k ++ [l[k]] = l.take (k + 1) := List.take_append_getElem hkl
      generalize l[k] = x at e1 e2
      have E1 := Lib.hid e1
      rw [e1]
      have E2 : Hid (txs (l.take k) ++ [x.data.toList] = txs (l.take (k + 1))) := by
        show _ = _
        rw [← e2]
        simp [txs]
      clear e1 e2
      rw [show hd (x :: l.drop (k + 1)) = x from rfl, show decide (0 < (x :: l.drop (k + 1)).length) = true from by simp]
      have hkt : (txs (l.take k)).length = k := by rw [txs_len, hkx]
      go_wp2_with (first
        | (at_builtin
           refine wp_snoc Hv.out (by rw [hkt]; omega) hbs x rfl _ _ rfl rfl rfl ?_; intro g3 c3 w3 o3 b3 _
           have O3 := Lib.hid o3
           have Bl3 := Lib.hid b3
           clear o3 b3
           rw [hkt] at O3 ⊢
           go_frame)
        | fail)
      refine (take_any b c cap (l.drop (k + 1)) _ ?_).mono ?_
      · have := Hx.out
        rw [E1.out] at this
        exact this.below Bl3.out hbl hcl
      rintro e w4 ⟨rfl, h4, b4⟩
      unfold tells
      have H4 := Lib.hid h4
      have O4 : Hid (OwnS w4 w.heap.size (.slice (some ⟨g3, 0, none⟩) (k + 1) c3) (txs (l.take (k + 1)))) := by
        rw [← E2.out]
        exact O3.out.but b4 (fun i h => by omega)
      have B4 := Lib.hid ((Hb.out.below Bl3.out).trans b4 fun _ _ h => h)
      clear h4 b4 O3
      go_wp2
      go_roundw
      case rel => exact ⟨k + 1, by omega, O4.out, rfl, by rw [List.length_drop], H4.out, B4.out⟩
      case measure => simp [sliceLen]; omega
    · have hkk : k = l.length := by omega
      subst hkk
      have hv := Hv.out
      have hx := Hx.out
      rw [List.take_length] at hv
      rw [List.drop_length] at hx
      have HV := Lib.hid hv
      have HX := Lib.hid hx
      clear hv hx
      rw [List.drop_length, show decide (0 < ([] : List ByteArray).length) = false from rfl]
      go_wp2
      go_ret
      exact ⟨_, rfl, HV.out, HX.out, Hb.out⟩

/-- boxes in a row: where each lies, its channel, its size, its texts -/
structure Bxs where
  b : Nat
  c : Nat
  cap : Nat
  l : List ByteArray
def Bxs.Is (x : Bxs) (w : World) : Prop := Bx w x.b x.c x.cap x.l

set_option maxHeartbeats 1000000 in
set_option maxRecDepth 100000 in
theorem turn_no (n : Nat) (av : Option Addr) (cp : Nat) (z : Int) (w : World) (h : z < 0 ∨ (n : Int) ≤ z) :
    Calls Try.prog 22 #[.slice av n cp, .int .i64 z] w fun e w' => e = .returned (.tuple #[.int .i64 0, .string ⟨#[]⟩, .bool false]) ∧ Kept w w' := by
  by_cases h0 : z < 0
  · clear h
    go_enter Try.func22, Try.ntmps22
    go_wp2
    go_ret3
    exact ⟨rfl, Kept.refl w⟩
  · have h1 : (n : Int) ≤ z := by omega
    clear h
    go_enter Try.func22, Try.ntmps22
    go_wp2
    go_ret3
    exact ⟨rfl, Kept.refl w⟩

set_option maxHeartbeats 1000000 in
set_option maxRecDepth 100000 in
theorem turn_any (n : Nat) (X : Nat → Bxs) (g cp f : Nat) (w : World) (hn : n ≤ 1000) (hf : f < n) (hg : g < w.heap.size) (hc : ∀ i, i < n → w.cell? ⟨g, i, none⟩ = some (.pointer (some ⟨(X i).b, 0, none⟩))) (hX : ∀ i, i < n → (X i).Is w) :
    Calls Try.prog 22 #[.slice (some ⟨g, 0, none⟩) n cp, .int .i64 f] w fun e w' =>
      ((∀ i, i < n → (X i).l = []) ∧ e = .returned (.tuple #[.int .i64 0, .string ⟨#[]⟩, .bool false]) ∧ Kept w w') ∨
      (∃ i x t, i < n ∧ (∀ j, j < i → (X ((f + j) % n)).l = []) ∧ (X ((f + i) % n)).l = x :: t ∧ e = .returned (.tuple #[.int .i64 ((f + i) % n : Nat), .string x, .bool true]) ∧ Bx w' (X ((f + i) % n)).b (X ((f + i) % n)).c (X ((f + i) % n)).cap t ∧ But (fun j => j = (X ((f + i) % n)).c) w w') := by
  have HC := Lib.hid hc
  have HX := Lib.hid hX
  clear hc hX
  have f1 : ¬ ((f : Int) < 0) := by omega
  have f2 : (f : Int) < (n : Int) := by omega
  go_enter Try.func22, Try.ntmps22
  go_wp2
  have hn0 : (n : Int) ≠ 0 := by omega
  go_loopw [21] (fun iv wr => ∃ k : Nat, k ≤ n ∧ iv = .int .i64 k ∧ (∀ j, j < k → (X ((f + j) % n)).l = []) ∧ Kept w wr) (fun iv _ => n - (intOf iv).toNat)
  case atStart => exact ⟨0, Nat.zero_le _, rfl, fun j hj => absurd hj (Nat.not_lt_zero _), Kept.refl w⟩
  case round =>
    obtain ⟨k, hk, rfl, hem, kr⟩ := hrel
    have Hem := Lib.hid hem
    clear hem
    by_cases hkn : k < n
    · obtain ⟨m, hm⟩ : ∃ m, m = (f + k) % n := ⟨_, rfl⟩
      have hmn : m < n := by rw [hm]; exact Nat.mod_lt _ (by omega)
      have r1 : Int.tmod ((f : Int) + (k : Int)) (n : Int) = (m : Int) := by rw [hm]; rfl
      have c1 : wr.cell? ⟨g, m, none⟩ = some (.pointer (some ⟨(X m).b, 0, none⟩)) := (Below.cell kr (p := ⟨g, m, none⟩) hg).trans (HC.out m hmn)
      have hx : Bx wr (X m).b (X m).c (X m).cap (X m).l := (HX.out m hmn).kept kr
      have HM := Lib.hid hm
      have HXm := Lib.hid hx
      have Kr := Lib.hid kr
      clear hx hm kr
      cases hl : (X m).l with
      | nil =>
        have hx := HXm.out
        rw [hl] at hx
        have HL := Lib.hid hl
        go_wp2_with fail
        refine (take_none _ _ _ _ hx).mono ?_
        rintro e w1 ⟨rfl, k1⟩
        have K1 := Lib.hid (Kr.out.trans k1)
        clear hx k1 hl c1
        go_wp2
        go_roundw
        case rel => exact ⟨k + 1, by omega, by go_num, fun j hj => by
                      by_cases e : j = k
                      · subst e; rw [← HM.out]; exact HL.out
                      · exact Hem.out j (by omega), K1.out⟩
        case measure => simp [intOf]; omega
      | cons x t =>
        have hx := HXm.out
        rw [hl] at hx
        have HL := Lib.hid hl
        go_wp2_with fail
        refine (take_some _ _ _ _ _ _ hx).mono ?_
        rintro e w1 ⟨rfl, h1, b1⟩
        have H1 := Lib.hid h1
        have B1 := Lib.hid (Kr.out.but.trans b1 fun _ _ h => h)
        clear hx h1 b1 hl c1
        go_wp2
        go_ret3
        refine Or.inr ⟨k, x, t, hkn, Hem.out, ?_, ?_, ?_, ?_⟩
        · rw [← HM.out]; exact HL.out
        · rw [← HM.out]; rfl
        · rw [← HM.out]; exact H1.out
        · rw [← HM.out]; exact B1.out
    · have hkk : k = n := by omega
      subst hkk
      go_wp2
      go_ret3
      refine Or.inl ⟨fun i hi => ?_, rfl, kr⟩
      have : ∃ j, j < k ∧ (f + j) % k = i := by
        by_cases h : f ≤ i
        · exact ⟨i - f, by omega, by rw [Nat.add_sub_of_le h]; exact Nat.mod_eq_of_lt hi⟩
        · refine ⟨i + k - f, by omega, ?_⟩
          rw [show f + (i + k - f) = i + k from by omega, Nat.add_mod_right]
          exact Nat.mod_eq_of_lt hi
      obtain ⟨j, hj, e⟩ := this
      rw [← e]
      exact Hem.out j hj
end Go.Proofs.Ytcachpcefeoolaa
