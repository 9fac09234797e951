/-
  What the document's trie tells: the walks of its Match, Of, All.
-/
import Derived.Test.YtalebnhkidhglaaGreatRdoc4
import Derived.Test.YtalebnhkidhglaaGreatRlets
import Derived.Test.YtalebnhkidhglaaGreatTref5
namespace Go.Proofs.YtalebnhkidhglaaGreat
open Go.ChangeShapes Go.WideShapes Go.ChangeAt Go.RowKit Go.Maps

/-- no more than K asks, of filters, no more often than K times -/
structure DFine (K : Nat) (rs : List AskV) : Prop where
  len : rs.length ≤ K
  ask : ∀ a ∈ rs, Tp.filter a.f = true ∧ a.f.length ≤ 150 ∧ a.n ≤ K

theorem who_of {A : Path → Int → Nat} {rs : List AskV} {K : Nat} (hd : Doc A rs) (hf : DFine K rs) {s : List UInt8} {ms : List Int} (h1 : ms.Pairwise (· < ·)) (h2 : ∀ i, i ∈ ms ↔ ∃ a ∈ rs, Tp.match_ a.f s = true ∧ a.id = i) : Who A s ms := by
  refine ⟨h1, fun i => ?_⟩
  rw [h2]
  constructor
  · rintro ⟨a, ha, hm, rfl⟩
    have hr := ((Tp.match_iff a.f s).1 hm).1
    exact ⟨hr, Tp.lev a.f, by rw [lets_match (hf.ask a ha).1 hr]; exact hm, by rw [hd.at_ a ha]; exact hd.pos a ha⟩
  · rintro ⟨hr, q, hq, hA⟩
    obtain ⟨a, ha, e1, e2⟩ := hd.all q i hA
    refine ⟨a, ha, ?_, e2⟩
    rw [← lets_match (hf.ask a ha).1 hr, e1]
    exact hq
theorem his_of {A : Path → Int → Nat} {rs : List AskV} (hd : Doc A rs) {i : Int} {fs : List (List UInt8)} (h1 : Tp.Ord fs) (h2 : ∀ f, f ∈ fs ↔ ∃ a ∈ rs, a.id = i ∧ a.f = f) : His A i fs := by
  refine ⟨h1, fun f => ?_⟩
  rw [h2]
  constructor
  · rintro ⟨a, ha, rfl, rfl⟩
    rw [hd.at_ a ha]; exact hd.pos a ha
  · intro hA
    obtain ⟨a, ha, e1, e2⟩ := hd.all _ i hA
    exact ⟨a, ha, e2, Tp.lev_inj e1⟩
theorem some_of {A : Path → Int → Nat} {rs : List AskV} (hd : Doc A rs) {fs : List (List UInt8)} (h1 : Tp.Ord fs) (h2 : ∀ f, f ∈ fs ↔ ∃ a ∈ rs, a.f = f) : Some_ A fs := by
  refine ⟨h1, fun f => ?_⟩
  rw [h2]
  constructor
  · rintro ⟨a, ha, rfl⟩
    exact ⟨a.id, by rw [hd.at_ a ha]; exact hd.pos a ha⟩
  · rintro ⟨i, hA⟩
    obtain ⟨a, ha, e1, e2⟩ := hd.all _ i hA
    exact ⟨a, ha, Tp.lev_inj e1⟩
theorem take_mem {rs : List AskV} {k : Nat} (h : k < rs.length) (P : AskV → Prop) : (∃ a ∈ rs.take (k + 1), P a) ↔ (∃ a ∈ rs.take k, P a) ∨ P rs[k] := by
  rw [List.take_add_one, List.getElem?_eq_getElem h]
  constructor
  · rintro ⟨a, ha, hp⟩
    rcases List.mem_append.1 ha with q | q
    · exact .inl ⟨a, q, hp⟩
    · simp at q; subst q; exact .inr hp
  · rintro (⟨a, ha, hp⟩ | hp)
    · exact ⟨a, List.mem_append.2 (.inl ha), hp⟩
    · exact ⟨_, List.mem_append.2 (.inr (by simp)), hp⟩

set_option maxHeartbeats 2000000 in
set_option maxRecDepth 100000 in
theorem rmatchd_any (w : World) (base r K : Nat) (rs : List AskV) (h : DocAt w base r rs) (hK : K ≤ 1000) (hf : DFine K rs) (A : Path → Int → Nat) (hd : Doc A rs) (t : ByteArray) (ht : t.size ≤ 900) :
    Calls Tryz.prog 14 #[.pointer (some ⟨r, 0, none⟩), .string t] w fun e w' => ∃ v ms, e = .returned v ∧ OwnJ w' w.heap.size v ms ∧ Who A t.data.toList ms ∧ Kept w w' := by
  obtain ⟨a, cap, hc, ho⟩ := h
  have HO := Lib.hid ho
  have HC := Lib.hid hc
  have HF := Lib.hid hf
  have HD := Lib.hid hd
  have hrl := hf.len
  clear ho hc hf hd
  go_enter Tryz.func14, Tryz.ntmps14
  go_wp2
  go_loopw [5, 6] (fun ov iv wr => ∃ (k : Nat) (ms : List Int), k ≤ rs.length ∧ iv = .int .i64 k ∧ OwnJ wr w.heap.size ov ms ∧ ms.Pairwise (· < ·) ∧ ms.length ≤ k ∧ (∀ i, i ∈ ms ↔ ∃ a ∈ rs.take k, Tp.match_ a.f t.data.toList = true ∧ a.id = i) ∧ Kept w wr) (fun _ iv _ => rs.length - (intOf iv).toNat)
  case atStart => exact ⟨0, [], Nat.zero_le _, rfl, OwnJ.empty w, List.Pairwise.nil, Nat.le_refl _, fun i => by simp, Kept.alloc (Kept.refl _) _⟩
  case round =>
    obtain ⟨k, ms, hk, rfl, hown, hp, hml, hmem, kk⟩ := hrel
    have HJ := Lib.hid hown
    have HP := Lib.hid hp
    have HM := Lib.hid hmem
    have hcr := kept_cell kk HC.out
    clear hown hp hmem
    by_cases hlt : k < rs.length
    · obtain ⟨g, p, rfl, hcm, hcl, lp, d0, d1, d2⟩ := HO.out.at hlt
      unfold maxLen at hcm
      have s0 := kept_cell kk d0
      have s1 := kept_cell kk d1
      obtain ⟨x, hx⟩ : ∃ x, rs[k].id = x := ⟨_, rfl⟩
      rw [hx] at s1
      have hps : p.size ≤ 150 := by rw [← str_size p, lp]; exact (HF.out.ask _ (List.getElem_mem hlt)).2.1
      have Hst : Hid (∀ i, (∃ a ∈ rs.take (k + 1), Tp.match_ a.f t.data.toList = true ∧ a.id = i) ↔ i ∈ ms ∨ (Tp.match_ p.data.toList t.data.toList = true ∧ x = i)) := fun i => by
        rw [take_mem hlt (fun a => Tp.match_ a.f t.data.toList = true ∧ a.id = i), ← HM.out i, ← lp, hx]
      clear d0 d1 d2 lp hx
      go_wp2_with fail
      refine (rmatch_any p t _ (by omega) (by omega)).mono ?_
      rintro e w1 ⟨rfl, k1⟩
      have kk1 := kk.trans k1
      have hcr1 := kept_cell k1 hcr
      have s11 := kept_cell k1 s1
      clear hcr s0 s1
      cases hm : Tp.match_ p.data.toList t.data.toList with
      | false =>
        rw [hm] at Hst
        clear hm hcr1 s11
        go_wp2
        go_roundw
        case rel => exact ⟨k + 1, ms, by omega, by go_num, HJ.out.kept k1, HP.out, by omega, fun i => by rw [Hst.out i]; simp, kk1⟩
        case measure => simp [intOf]; omega
      | true =>
        rw [hm] at Hst
        clear hm
        go_wp2_with fail
        refine (rins_any _ ms x w1 w.heap.size (HJ.out.kept k1) kk1.size (by omega)).mono ?_
        rintro e w2 ⟨v2, rfl, o2, k2⟩
        have hil := insI_len x ms
        go_wp2
        go_roundw
        case rel => exact ⟨k + 1, _, by omega, by go_num, o2, insI_sorted x ms HP.out, by omega, fun i => by rw [Hst.out i, insI_mem]; constructor <;> rintro (h | h) <;> simp [h], kk1.trans k2⟩
        case measure => simp [intOf]; omega
    · have hke : k = rs.length := by omega
      subst hke
      rw [List.take_length] at HM
      go_wp2
      go_ret
      exact ⟨_, ms, rfl, HJ.out, who_of HD.out HF.out HP.out HM.out, kk⟩

set_option maxHeartbeats 2000000 in
set_option maxRecDepth 100000 in
theorem rofd_any (w : World) (base r K : Nat) (rs : List AskV) (h : DocAt w base r rs) (hK : K ≤ 1000) (hf : DFine K rs) (A : Path → Int → Nat) (hd : Doc A rs) (i : Int) :
    Calls Tryz.prog 18 #[.pointer (some ⟨r, 0, none⟩), .int .i64 i] w fun e w' => ∃ v fs, e = .returned v ∧ OwnN w' w.heap.size v fs ∧ His A i fs ∧ Kept w w' := by
  obtain ⟨a, cap, hc, ho⟩ := h
  have HO := Lib.hid ho
  have HC := Lib.hid hc
  have HF := Lib.hid hf
  have HD := Lib.hid hd
  have hrl := hf.len
  clear ho hc hf hd
  go_enter Tryz.func18, Tryz.ntmps18
  go_wp2
  go_loopw [5, 6] (fun ov iv wr => ∃ (k : Nat) (ms : List (List UInt8)), k ≤ rs.length ∧ iv = .int .i64 k ∧ OwnN wr w.heap.size ov ms ∧ Tp.Ord ms ∧ ms.length ≤ k ∧ (∀ f, f ∈ ms ↔ ∃ a ∈ rs.take k, a.id = i ∧ a.f = f) ∧ Kept w wr) (fun _ iv _ => rs.length - (intOf iv).toNat)
  case atStart => exact ⟨0, [], Nat.zero_le _, rfl, OwnN.empty w, List.Pairwise.nil, Nat.le_refl _, fun i => by simp, Kept.alloc (Kept.refl _) _⟩
  case round =>
    obtain ⟨k, ms, hk, rfl, hown, hp, hml, hmem, kk⟩ := hrel
    have HJ := Lib.hid hown
    have HP := Lib.hid hp
    have HM := Lib.hid hmem
    have hcr := kept_cell kk HC.out
    clear hown hp hmem
    by_cases hlt : k < rs.length
    · obtain ⟨g, p, rfl, hcm, hcl, lp, d0, d1, d2⟩ := HO.out.at hlt
      unfold maxLen at hcm
      have s0 := kept_cell kk d0
      have s1 := kept_cell kk d1
      obtain ⟨x, hx⟩ : ∃ x, rs[k].id = x := ⟨_, rfl⟩
      rw [hx] at s1
      have hps : p.size ≤ 150 := by rw [← str_size p, lp]; exact (HF.out.ask _ (List.getElem_mem hlt)).2.1
      have Hst : Hid (∀ f, (∃ a ∈ rs.take (k + 1), a.id = i ∧ a.f = f) ↔ f ∈ ms ∨ (x = i ∧ p.data.toList = f)) := fun f => by
        rw [take_mem hlt (fun a => a.id = i ∧ a.f = f), ← HM.out f, ← lp, hx]
      have Hsh : Hid (∀ y ∈ ms, y.length ≤ 1000) := fun y hy => by
        obtain ⟨a, ha, _, rfl⟩ := (HM.out y).1 hy
        exact Nat.le_trans (HF.out.ask a (List.mem_of_mem_take ha)).2.1 (by omega)
      clear d0 d1 d2 lp hx
      by_cases hxi : x = i
      · have e1 : (x == i) = true := by rw [beq_iff_eq]; exact hxi
        have HX := Lib.hid hxi
        clear hxi
        go_wp2_with fail
        refine (rinsert_any _ ms p wr w.heap.size HJ.out kk.size (by omega) Hsh.out (by omega)).mono ?_
        rintro e w2 ⟨v2, rfl, o2, k2⟩
        have hil := Tp.ins_len p.data.toList ms
        go_wp2
        go_roundw
        case rel => exact ⟨k + 1, _, by omega, by go_num, o2, Tp.ins_ord _ ms HP.out, by omega, fun f => by
                      rw [Hst.out f, Tp.ins_mem]
                      constructor
                      · rintro (h | h)
                        · exact .inr ⟨HX.out, h.symm⟩
                        · exact .inl h
                      · rintro (h | h)
                        · exact .inr h
                        · exact .inl h.2.symm, kk.trans k2⟩
        case measure => simp [intOf]; omega
      · have e1 : (x == i) = false := by rw [beq_eq_false_iff_ne]; exact hxi
        have HX := Lib.hid hxi
        clear hxi
        go_wp2
        go_roundw
        case rel => exact ⟨k + 1, ms, by omega, by go_num, HJ.out, HP.out, by omega, fun f => by
                      rw [Hst.out f]
                      exact ⟨.inl, fun h => h.resolve_right fun q => HX.out q.1⟩, kk⟩
        case measure => simp [intOf]; omega
    · have hke : k = rs.length := by omega
      subst hke
      rw [List.take_length] at HM
      go_wp2
      go_ret
      exact ⟨_, ms, rfl, HJ.out, his_of HD.out HP.out HM.out, kk⟩

set_option maxHeartbeats 2000000 in
set_option maxRecDepth 100000 in
theorem ralld_any (w : World) (base r K : Nat) (rs : List AskV) (h : DocAt w base r rs) (hK : K ≤ 1000) (hf : DFine K rs) (A : Path → Int → Nat) (hd : Doc A rs) :
    Calls Tryz.prog 16 #[.pointer (some ⟨r, 0, none⟩)] w fun e w' => ∃ v fs, e = .returned v ∧ OwnN w' w.heap.size v fs ∧ Some_ A fs ∧ Kept w w' := by
  obtain ⟨a, cap, hc, ho⟩ := h
  have HO := Lib.hid ho
  have HC := Lib.hid hc
  have HF := Lib.hid hf
  have HD := Lib.hid hd
  have hrl := hf.len
  clear ho hc hf hd
  go_enter Tryz.func16, Tryz.ntmps16
  go_wp2
  go_loopw [3, 4] (fun ov iv wr => ∃ (k : Nat) (ms : List (List UInt8)), k ≤ rs.length ∧ iv = .int .i64 k ∧ OwnN wr w.heap.size ov ms ∧ Tp.Ord ms ∧ ms.length ≤ k ∧ (∀ f, f ∈ ms ↔ ∃ a ∈ rs.take k, a.f = f) ∧ Kept w wr) (fun _ iv _ => rs.length - (intOf iv).toNat)
  case atStart => exact ⟨0, [], Nat.zero_le _, rfl, OwnN.empty w, List.Pairwise.nil, Nat.le_refl _, fun i => by simp, Kept.alloc (Kept.refl _) _⟩
  case round =>
    obtain ⟨k, ms, hk, rfl, hown, hp, hml, hmem, kk⟩ := hrel
    have HJ := Lib.hid hown
    have HP := Lib.hid hp
    have HM := Lib.hid hmem
    have hcr := kept_cell kk HC.out
    clear hown hp hmem
    by_cases hlt : k < rs.length
    · obtain ⟨g, p, rfl, hcm, hcl, lp, d0, d1, d2⟩ := HO.out.at hlt
      unfold maxLen at hcm
      have s0 := kept_cell kk d0
      have hps : p.size ≤ 150 := by rw [← str_size p, lp]; exact (HF.out.ask _ (List.getElem_mem hlt)).2.1
      have Hst : Hid (∀ f, (∃ a ∈ rs.take (k + 1), a.f = f) ↔ f ∈ ms ∨ p.data.toList = f) := fun f => by
        rw [take_mem hlt (fun a => a.f = f), ← HM.out f, ← lp]
      have Hsh : Hid (∀ y ∈ ms, y.length ≤ 1000) := fun y hy => by
        obtain ⟨a, ha, rfl⟩ := (HM.out y).1 hy
        exact Nat.le_trans (HF.out.ask a (List.mem_of_mem_take ha)).2.1 (by omega)
      clear d0 d1 d2 lp
      go_wp2_with fail
      refine (rinsert_any _ ms p wr w.heap.size HJ.out kk.size (by omega) Hsh.out (by omega)).mono ?_
      rintro e w2 ⟨v2, rfl, o2, k2⟩
      have hil := Tp.ins_len p.data.toList ms
      go_wp2
      go_roundw
      case rel => exact ⟨k + 1, _, by omega, by go_num, o2, Tp.ins_ord _ ms HP.out, by omega, fun f => by
                    rw [Hst.out f, Tp.ins_mem]
                    constructor
                    · rintro (h | h)
                      · exact .inr h.symm
                      · exact .inl h
                    · rintro (h | h)
                      · exact .inr h
                      · exact .inl h.symm, kk.trans k2⟩
      case measure => simp [intOf]; omega
    · have hke : k = rs.length := by omega
      subst hke
      rw [List.take_length] at HM
      go_wp2
      go_ret
      exact ⟨_, ms, rfl, HJ.out, some_of HD.out HP.out HM.out, kk⟩
end Go.Proofs.YtalebnhkidhglaaGreat
