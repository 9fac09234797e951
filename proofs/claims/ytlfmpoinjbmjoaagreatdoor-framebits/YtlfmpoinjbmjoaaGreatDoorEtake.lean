/-
  The walk of the closure that takes parts of bytes one behind the other.
-/
import Derived.Test.YtlfmpoinjbmjoaaGreatDoorEbase
namespace Go.Proofs.YtlfmpoinjbmjoaaGreatDoor
open Go.ChangeShapes Go.WideShapes Go.ChangeAt Go.RowKit

/-- one part more: what the closure keeps, and the cells that parts are taken into -/
def tk1 (l : List UInt8) (x : (List Ev.It × Int × Nat) × Array Value) (p : Pt) : (List Ev.It × Int × Nat) × Array Value :=
  if x.1.2.2 = 0 then (Ev.istep l x.1 p.kind, x.2.setIfInBounds p.off (itv (Ev.iget p.kind l x.1.2.1).1)) else x
def tk (l : List UInt8) (x : (List Ev.It × Int × Nat) × Array Value) (ps : List Pt) : (List Ev.It × Int × Nat) × Array Value := ps.foldl (tk1 l) x
theorem tk_snoc (l : List UInt8) (x : (List Ev.It × Int × Nat) × Array Value) (ps : List Pt) (k : Nat) (h : k < ps.length) : tk l x (ps.take (k + 1)) = tk1 l (tk l x (ps.take k)) ps[k] := by
  rw [tk, List.take_succ_eq_append_getElem h, List.foldl_append]; rfl
theorem tk_fst (l : List UInt8) : ∀ (ps : List Pt) (x : (List Ev.It × Int × Nat) × Array Value), (tk l x ps).1 = (ps.map Pt.kind).foldl (Ev.istep l) x.1
  | [], _ => rfl
  | p :: ps, x => by
    have ih := tk_fst l ps (tk1 l x p)
    rw [tk] at ih ⊢
    rw [List.foldl_cons, ih, List.map_cons, List.foldl_cons]
    congr 1
    unfold tk1
    by_cases h : x.1.2.2 = 0
    · rw [if_pos h]
    · rw [if_neg h, Ev.istep_bad l x.1 p.kind h]
theorem tk_size (l : List UInt8) : ∀ (ps : List Pt) (x : (List Ev.It × Int × Nat) × Array Value), (tk l x ps).2.size = x.2.size
  | [], _ => rfl
  | p :: ps, x => by
    have ih := tk_size l ps (tk1 l x p)
    rw [tk] at ih ⊢
    rw [List.foldl_cons, ih]
    unfold tk1
    by_cases h : x.1.2.2 = 0
    · rw [if_pos h]; simp
    · rw [if_neg h]
/-- places and errors that a machine may hold -/
def Fair (st : List Ev.It × Int × Nat) : Prop := -9223372036854775808 ≤ st.2.1 ∧ st.2.1 ≤ 9223372036854775807 ∧ st.2.2 ≤ 4
theorem fold_fair (l : List UInt8) (hl : l.length ≤ 9223372036854775807) : ∀ (ks : List Bool) (st : List Ev.It × Int × Nat), Fair st → Fair (ks.foldl (Ev.istep l) st)
  | [], _, h => h
  | k :: ks, st, hst => by
    rw [List.foldl_cons]
    refine fold_fair l hl ks _ ?_
    by_cases h1 : st.2.2 = 0
    · have h2 := Ev.istep_keeps l st k h1
      have h3 := Ev.iget_le k l st.2.1
      unfold Fair
      rw [h2]
      exact ⟨by simp only; omega, by simp only; omega, h3.2⟩
    · rw [Ev.istep_bad l st k h1]; exact hst

/-- what the closure keeps, in memory -/
structure Tk (w : World) (f sb ab : Nat) (s : ByteArray) (st : List Ev.It × Int × Nat) : Prop where
  first : Blk w f #[.int .i64 st.2.2] 34
  text : Blk w sb #[.string s] 9
  at_ : Blk w ab #[.int .i64 st.2.1] 3
/-- parts in memory, whose things lie in one block -/
structure Pts (w : World) (q g n : Nat) (ps : List Pt) (no : Nat → Prop) : Prop where
  nq : ¬ no q
  at_ : ∀ i p, ps[i]? = some p → w.cell? ⟨q, i, none⟩ = some p.val ∧ w.cell? ⟨p.pb, 0, none⟩ = some (.pointer (some ⟨g, p.off, none⟩)) ∧ ¬ no p.pb ∧ p.off < n

theorem Tab.but {S : Nat → Prop} {w w' : World} (t : Tab w) (h : But S w w') (hs : ¬ S 0) : Tab w' :=
  ⟨Nat.lt_of_lt_of_le t.size h.size, fun k hk => (h.cell (p := ⟨0, k * 3, none⟩) t.size hs).trans (t.first k hk),
    fun k hk => (h.cell (p := ⟨0, k * 3 + 1, none⟩) t.size hs).trans (t.base k hk), fun k hk => (h.cell (p := ⟨0, k * 3 + 2, none⟩) t.size hs).trans (t.top k hk)⟩
def Took (w : World) (f sb ab g : Nat) (s : ByteArray) (t : TypeId) (y : (List Ev.It × Int × Nat) × Array Value) (w' : World) : Prop :=
  Tk w' f sb ab s y.1 ∧ Blk w' g y.2 t ∧ But (fun i => i = f ∨ i = ab ∨ i = g) w w'

set_option maxHeartbeats 1000000 in
set_option maxRecDepth 100000 in
theorem take_any (ps : List Pt) (av : Option Addr) (q f sb ab g : Nat) (t : TypeId) (s : ByteArray) (st : List Ev.It × Int × Nat) (arr : Array Value) (w : World) (hs : s.size ≤ 140737488355328) (hst : Fair st) (hT : Tab w)
    (hn : ps.length ≤ 2) (hav : ps.length = 0 ∨ av = some ⟨q, 0, none⟩) (hk : Tk w f sb ab s st) (hg : Blk w g arr t) (hp : Pts w q g arr.size ps (fun i => i = f ∨ i = ab ∨ i = g)) (hw : f ≠ 0 ∧ ab ≠ 0 ∧ g ≠ 0)
    (d1 : f ≠ sb) (d2 : f ≠ ab) (d3 : ab ≠ sb) (d4 : g ≠ f) (d5 : g ≠ sb) (d6 : g ≠ ab) :
    Calls Tryz.prog 134 #[.slice av ps.length ps.length, .pointer (some ⟨f, 0, none⟩), .pointer (some ⟨sb, 0, none⟩), .pointer (some ⟨ab, 0, none⟩)] w fun e w' =>
      e = .returned (.tuple #[.int .i64 (tk s.data.toList (st, arr) ps).1.2.1, .int .i64 (tk s.data.toList (st, arr) ps).1.2.2]) ∧ Took w f sb ab g s t (tk s.data.toList (st, arr) ps) w' := by
  have hsl := size_len s
  have Hn := Lib.hid hn
  have Hav := Lib.hid hav
  have Hsl := Lib.hid hsl
  obtain ⟨n, hnn⟩ : ∃ n, n = ps.length := ⟨_, rfl⟩
  rw [← hnn]
  have Hnn := Lib.hid hnn
  rw [← hnn] at hn
  clear hnn hsl hav
  have HP := Lib.hid hp
  have HK := Lib.hid hk
  have HG := Lib.hid hg
  have HT := Lib.hid hT
  clear hp hk hg hT
  go_enter Tryz.func134, Tryz.ntmps134
  go_wp2
  go_loopw [8, 11] (fun _ i wr => ∃ k : Nat, k ≤ n ∧ i = .int .i64 k ∧ Took w f sb ab g s t (tk s.data.toList (st, arr) (ps.take k)) wr) (fun _ i _ => n - (intOf i).toNat)
  case atStart => exact ⟨0, by omega, rfl, HK.out, HG.out, But.refl _ _⟩
  case round =>
    obtain ⟨k, hk, rfl, htk, hgb, hbut⟩ := hrel
    have hfair : Fair (tk s.data.toList (st, arr) (ps.take k)).1 := by rw [tk_fst]; exact fold_fair _ (by rw [Hsl.out]; omega) _ _ hst
    have hsz := tk_size s.data.toList (ps.take k) (st, arr)
    obtain ⟨⟨⟨its, a, e⟩, ar⟩, hy⟩ : ∃ y, y = tk s.data.toList (st, arr) (ps.take k) := ⟨_, rfl⟩
    rw [← hy] at htk hgb hfair hsz
    have HY := Lib.hid hy
    clear hy
    obtain ⟨f0, f1, f2⟩ := hfair
    simp only at htk hgb f0 f1 f2 hsz
    have c1 := htk.first.cell 0
    have c1f := htk.first.frozen 0
    have c2 := htk.text.cell 0
    have c3 := htk.at_.cell 0
    have c3f := htk.at_.frozen 0
    simp only [Array.getElem?_eq_getElem, List.size_toArray, List.length_cons, List.length_nil, Nat.zero_lt_succ, List.getElem_toArray, List.getElem_cons_zero] at c1 c2 c3
    have HTk := Lib.hid htk
    have HGb := Lib.hid hgb
    have HB := Lib.hid hbut
    have Hsz := Lib.hid hsz
    clear htk hgb hbut hsz
    by_cases hlt : k < n
    · have hkl : k < ps.length := by rw [← Hnn.out]; exact hlt
      obtain ⟨p1, p2, p3, p4⟩ := HP.out.at_ k ps[k] (List.getElem?_eq_getElem hkl)
      have hq := World.block_lt_of_cell? w _ p1
      have hpb := World.block_lt_of_cell? w _ p2
      have c4 : wr.cell? ⟨q, k, none⟩ = some (ps[k]).val := (HB.out.cell (p := ⟨q, k, none⟩) hq HP.out.nq).trans p1
      have c5 : wr.cell? ⟨(ps[k]).pb, 0, none⟩ = some (.pointer (some ⟨g, (ps[k]).off, none⟩)) := (HB.out.cell (p := ⟨(ps[k]).pb, 0, none⟩) hpb p3).trans p2
      have c6 : ∃ v0, wr.cell? ⟨g, (ps[k]).off, none⟩ = some v0 := ⟨_, (HGb.out.cell _).trans (Array.getElem?_eq_getElem (by rw [Hsz.out]; exact p4))⟩
      have c6f := HGb.out.frozen (ps[k]).off
      obtain ⟨v0, c6⟩ := c6
      have hstep := tk_snoc s.data.toList (st, arr) ps k hkl
      rw [← HY.out] at hstep
      obtain ⟨p, hpp⟩ : ∃ p, p = ps[k] := ⟨_, rfl⟩
      rw [← hpp] at c4 c5 c6 c6f hstep
      have Hst := Lib.hid hstep
      have Hpp := Lib.hid hpp
      have C5 := Lib.hid c5
      have C6 := Lib.hid c6
      have C6F := Lib.hid c6f
      clear hstep hpp c5 c6 c6f p1 p2 p3 p4
      have hav : av = some ⟨q, 0, none⟩ := by
        rcases Hav.out with h | h
        · omega
        · exact h
      subst hav
      have hT : Tab wr := HT.out.but HB.out (by rintro (h | h | h) <;> omega)
      have HTw := Lib.hid hT
      clear hT
      by_cases he : e = 0
      · subst he
        have hle := Ev.iget_le p.kind s.data.toList a
        obtain ⟨⟨x, x1, x2⟩, hx⟩ : ∃ x, x = Ev.iget p.kind s.data.toList a := ⟨_, rfl⟩
        rw [← hx, Hsl.out] at hle
        obtain ⟨l1, l2⟩ := hle
        simp only at l1 l2
        have Hx := Lib.hid hx
        clear hx
        have hrel : ∀ w2, Kept wr w2 → Took w f sb ab g s t (tk s.data.toList (st, arr) (ps.take (k + 1))) (((w2.setCell ⟨g, p.off, none⟩ (itv x)).setCell ⟨ab, 0, none⟩ (.int .i64 x1)).setCell ⟨f, 0, none⟩ (.int .i64 x2)) := by
          intro w2 k2
          have e1 := Ev.istep_keeps s.data.toList (its, a, 0) p.kind rfl
          simp only at e1
          rw [← Hx.out] at e1
          rw [Hst.out, tk1, if_pos rfl]
          simp only
          rw [← Hx.out]
          have b1 := (HTk.out.first.kept k2)
          have b2 := (HTk.out.text.kept k2)
          have b3 := (HTk.out.at_.kept k2)
          have b4 := (HGb.out.kept k2)
          refine ⟨⟨?_, ?_, ?_⟩, ?_, ?_⟩
          · rw [e1]; exact ((b1.far ⟨g, p.off, none⟩ _ (Ne.symm d4)).far ⟨ab, 0, none⟩ _ d2).set 0 _
          · exact ((b2.far ⟨g, p.off, none⟩ _ (Ne.symm d5)).far ⟨ab, 0, none⟩ _ (Ne.symm d3)).far ⟨f, 0, none⟩ _ (Ne.symm d1)
          · rw [e1]; exact ((b3.far ⟨g, p.off, none⟩ _ (Ne.symm d6)).set 0 _).far ⟨f, 0, none⟩ _ (Ne.symm d2)
          · exact ((b4.set p.off _).far ⟨ab, 0, none⟩ _ d6).far ⟨f, 0, none⟩ _ d4
          · refine (((HB.out.trans (Kept.but (S := fun _ => False) k2) (fun _ _ h => h.elim)).trans (but_set _ g p.off _) (fun _ _ h => .inr (.inr h))).trans (but_set _ ab 0 _) (fun _ _ h => .inr (.inl h))).trans (but_set _ f 0 _) (fun _ _ h => .inl h)
        have Hrel := Lib.hid hrel
        clear hrel
        have g1 : ∀ w2, Kept wr w2 → w2.cell? ⟨ab, 0, none⟩ = some (.int .i64 a) ∧ w2.cell? ⟨f, 0, none⟩ = some (.int .i64 0) ∧ w2.frozen? ⟨ab, 0, none⟩ = false ∧ w2.frozen? ⟨f, 0, none⟩ = false := fun w2 k2 =>
          ⟨((HTk.out.at_.kept k2).cell 0).trans rfl, ((HTk.out.first.kept k2).cell 0).trans rfl, (HTk.out.at_.kept k2).frozen 0, (HTk.out.first.kept k2).frozen 0⟩
        have G1 := Lib.hid g1
        clear g1
        obtain ⟨kd, pb, off⟩ := p
        simp only at C5 C6 C6F Hrel Hx
        cases kd
        · simp only [Pt.val, Pt.fn, Bool.false_eq_true, if_false] at c4
          go_wp2_with fail
          refine (text_part s a pb g off v0 wr hs f0 f1 HTw.out C5.out C6.out C6F.out).mono ?_
          rintro e w1 ⟨rfl, w2, k2, rfl⟩
          rw [← Hx.out]
          simp only
          obtain ⟨m1, m2, m3, m4⟩ := G1.out w2 k2
          have r := Hrel.out w2 k2
          have HR := Lib.hid r
          clear r
          generalize itv x = X at HR ⊢
          go_wp2
          go_roundw
          case rel => exact ⟨k + 1, by omega, by go_num, HR.out⟩
          case measure => simp [intOf]; omega
        · simp only [Pt.val, Pt.fn, if_true] at c4
          go_wp2_with fail
          refine (number_part s a pb g off v0 wr hs f0 f1 HTw.out C5.out C6.out C6F.out).mono ?_
          rintro e w1 ⟨rfl, w2, k2, rfl⟩
          rw [← Hx.out]
          simp only
          obtain ⟨m1, m2, m3, m4⟩ := G1.out w2 k2
          have r := Hrel.out w2 k2
          have HR := Lib.hid r
          clear r
          generalize itv x = X at HR ⊢
          go_wp2
          go_roundw
          case rel => exact ⟨k + 1, by omega, by go_num, HR.out⟩
          case measure => simp [intOf]; omega
      · have he2 : ((e : Int) == 0) = false := by simp only [beq_eq_false_iff_ne]; omega
        obtain ⟨F, hF⟩ : ∃ F, F = p.val := ⟨_, rfl⟩
        rw [← hF] at c4
        clear hF
        go_wp2
        go_roundw
        case rel =>
          refine ⟨k + 1, by omega, by go_num, ?_⟩
          rw [Hst.out, tk1, if_neg he]
          exact ⟨HTk.out, HGb.out, HB.out⟩
        case measure => simp [intOf]; omega
    · obtain rfl : k = n := by omega
      go_wp2
      go_quiet (fail)
      go_wp2
      go_ret2
      rw [List.take_of_length_le (by rw [← Hnn.out]; exact Nat.le_refl _)] at HY
      rw [← HY.out]
      exact ⟨rfl, ⟨HTk.out.first, HTk.out.text, HTk.out.at_⟩, HGb.out, HB.out.os, HB.out.tape, HB.out.output, HB.out.size, HB.out.block⟩
end Go.Proofs.YtlfmpoinjbmjoaaGreatDoor
