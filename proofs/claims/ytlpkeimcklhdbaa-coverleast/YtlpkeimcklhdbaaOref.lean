/-
  The document's own filters: the walks of rivuletref05.Clean, Lets, Holds, Without, Diff.
-/
import Derived.Test.YtlpkeimcklhdbaaOins
import Derived.Test.YtlpkeimcklhdbaaTref6
namespace Go.Proofs.Ytlpkeimcklhdbaa
open Go.ChangeShapes Go.WideShapes Go.ChangeAt Go.RowKit

theorem cln_sub (xs : List (List UInt8)) : ∀ x ∈ Tp.cln [] xs, x ∈ xs := fun x hx => ((Tp.clean_mem xs x).1 hx).1

set_option maxHeartbeats 1000000 in
set_option maxRecDepth 100000 in
theorem rclean_any (v : Value) (xs : List (List UInt8)) (w : World) (hS : Strs w v xs) (hl : xs.length ≤ 1000) (hs : ∀ x ∈ xs, x.length ≤ 1000) :
    Calls Try.prog 26 #[v] w fun e w' => ∃ v', e = .returned v' ∧ OwnN w' w.heap.size v' (Tp.clean xs) ∧ Kept w w' := by
  obtain ⟨a, cap, rfl, hc1, hc2, hat⟩ := strs_get hS
  have HA := Lib.hid hat
  have HS := Lib.hid hs
  clear hat hs hS
  unfold maxLen at hc2
  go_enter Try.func26, Try.ntmps26
  go_wp2
  go_loopw [3, 4] (fun r i wr => ∃ k : Nat, k ≤ xs.length ∧ i = .int .i64 k ∧ OwnN wr w.heap.size r (Tp.cln [] (xs.take k)) ∧ Kept w wr) (fun _ i _ => xs.length - (intOf i).toNat)
  case atStart => exact ⟨0, Nat.zero_le _, rfl, OwnN.empty w, Kept.alloc (Kept.refl _) _⟩
  case round =>
    obtain ⟨k, hk, rfl, hown, kr⟩ := hrel
    by_cases hlt : k < xs.length
    · obtain ⟨b, off, p, rfl, hb, hc, lp⟩ := HA.out k hlt
      have hck := (Below.cell kr (p := ⟨b, off + k, none⟩) hb).trans hc
      have hps : p.size ≤ 1000 := by rw [← str_size p, lp]; exact HS.out _ (List.getElem_mem hlt)
      have Hst : Hid (Tp.cln [] (xs.take (k + 1)) = if Tp.filter p.data.toList = true then Tp.ins p.data.toList (Tp.cln [] (xs.take k)) else Tp.cln [] (xs.take k)) := by
        show _ = _
        rw [List.take_add_one, List.getElem?_eq_getElem hlt, ← lp]
        exact Tp.clean_snoc _ _ _
      have hcl := Tp.cln_len (xs.take k) []
      have hcl2 : (Tp.cln [] (xs.take k)).length ≤ 1000 := by simp at hcl; omega
      have Hsh : Hid (∀ x ∈ Tp.cln [] (xs.take k), x.length ≤ 1000) := fun x hx => HS.out x (List.mem_of_mem_take (cln_sub _ x hx))
      clear hc lp hcl
      go_wp2_with fail
      refine (rfilter_any p _ (by omega)).mono ?_
      rintro e w1 ⟨rfl, k1⟩
      have hck1 := (Below.cell k1 (p := ⟨b, off + k, none⟩) (Nat.lt_of_lt_of_le hb kr.size)).trans hck
      have kr1 := kr.trans k1
      have HO := Lib.hid (hown.kept k1)
      clear hck hown
      cases hf : Tp.filter p.data.toList with
      | false =>
        rw [hf] at Hst
        clear hf
        go_wp2
        go_roundw
        case rel => exact ⟨k + 1, by omega, by go_num, by rw [Hst.out]; exact HO.out, kr1⟩
        case measure => simp [intOf]; omega
      | true =>
        rw [hf] at Hst
        clear hf
        go_wp2_with fail
        refine (rinsert_any _ _ p w1 w.heap.size HO.out kr1.size hcl2 Hsh.out hps).mono ?_
        rintro e w2 ⟨v2, rfl, o2, k2⟩
        go_wp2
        go_roundw
        case rel => exact ⟨k + 1, by omega, by go_num, by rw [Hst.out]; exact o2, kr1.trans k2⟩
        case measure => simp [intOf]; omega
    · have hke : k = xs.length := by omega
      subst hke
      rw [List.take_length] at hown
      go_wp2
      go_ret
      exact ⟨_, rfl, hown, kr⟩

set_option maxHeartbeats 2000000 in
set_option maxRecDepth 100000 in
theorem rwithout_any (v1 v2 : Value) (xs ys : List (List UInt8)) (w : World) (hS1 : Strs w v1 xs) (hS2 : Strs w v2 ys) (lx : xs.length ≤ 1000) :
    Calls Try.prog 25 #[v1, v2] w fun e w' => ∃ v', e = .returned v' ∧ OwnN w' w.heap.size v' (Tp.wout xs ys) ∧ Kept w w' := by
  obtain ⟨a1, cap1, rfl, hc1, hc2, hat1⟩ := strs_get hS1
  obtain ⟨a2, cap2, rfl, hd1, hd2, hat2⟩ := strs_get hS2
  have H1 := Lib.hid hat1
  have H2 := Lib.hid hat2
  clear hat1 hat2 hS1 hS2
  unfold maxLen at hc2 hd2
  go_enter Try.func25, Try.ntmps25
  go_wp2
  go_loopw [5, 6] (fun r i wr => ∃ k : Nat, k ≤ xs.length ∧ i = .int .i64 k ∧ OwnN wr w.heap.size r (Tp.wout (xs.take k) ys) ∧ Kept w wr) (fun _ i _ => xs.length - (intOf i).toNat)
  case atStart => exact ⟨0, Nat.zero_le _, rfl, OwnN.empty w, Kept.alloc (Kept.refl _) _⟩
  case round =>
    obtain ⟨k, hk, rfl, hown, kr⟩ := hrel
    obtain ⟨wo, rfl⟩ : ∃ wo, wo = wr := ⟨_, rfl⟩
    have HO := Lib.hid hown
    clear hown
    by_cases hlt : k < xs.length
    · obtain ⟨b, off, p, rfl, hb, hc, lp⟩ := H1.out k hlt
      have Hst : Hid (Tp.wout (xs.take (k + 1)) ys = Tp.wout (xs.take k) ys ++ (if (ys.all fun y => p.data.toList != y) = true then [p.data.toList] else [])) := by
        show _ = _
        unfold Tp.wout
        rw [List.take_add_one, List.getElem?_eq_getElem hlt, List.filter_append, ← lp]
        congr 1
        simp only [Option.toList_some, List.filter_cons, List.filter_nil]
      have hwl : (Tp.wout (xs.take k) ys).length ≤ 1000 := Nat.le_trans (List.length_filter_le _ _) (by rw [List.length_take]; omega)
      have Hc := Lib.hid hc
      clear hc lp
      go_wp2
      go_loopw [7, 8] (fun c j wx => ∃ (m : Nat) (t : Bool), m ≤ ys.length ∧ c = .bool t ∧ j = .int .i64 m ∧ (!t) = ((ys.take m).all fun y => p.data.toList != y) ∧ Kept wo wx) (fun _ j _ => ys.length - (intOf j).toNat)
      case atStart => exact ⟨0, false, Nat.zero_le _, rfl, rfl, rfl, Kept.refl _⟩
      case round =>
        obtain ⟨m, t, hm, rfl, rfl, ht, kx⟩ := hrel
        have HT := Lib.hid ht
        clear ht
        have kwx := kr.trans kx
        by_cases hmt : m < ys.length
        · obtain ⟨b2, off2, q, rfl, hb2, hq, lq⟩ := H2.out m hmt
          have t1 := KW.cell ((Below.cell kwx (p := ⟨b, off + k, none⟩) hb).trans Hc.out)
          have t2 := KW.cell ((Below.cell kwx (p := ⟨b2, off2 + m, none⟩) hb2).trans hq)
          have Hn : Hid (((ys.take (m + 1)).all fun y => p.data.toList != y) = (((ys.take m).all fun y => p.data.toList != y) && (p.data.toList != q.data.toList))) := by
            show _ = _
            rw [List.take_add_one, List.getElem?_eq_getElem hmt, List.all_append, ← lq]
            simp
          clear hq lq
          cases t with
          | true =>
            go_wp2_with fail
            have nn : Nonempty (KW wr) := ⟨⟨wr, Kept.refl wr⟩⟩
            refine wp_region_kept (by kernel_rfl) (by kernel_rfl) ?_
            repeat (go_big_quiet_step (fail))
            refine wpQuiet_nil ?_
            intro w6 hw6
            have k6 : Kept wo w6 := by
              obtain ⟨p, rfl⟩ := hw6
              exact kx.trans p.h
            clear hw6 nn t1 t2
            go_wp2
            go_roundw
            case rel => exact ⟨m + 1, true, by omega, rfl, by go_num, by rw [Hn.out, ← HT.out]; rfl, k6⟩
            case measure => simp [intOf]; omega
          | false =>
            cases he : (p.toList == q.toList) with
            | true =>
              have Hb : Hid ((p.data.toList != q.data.toList) = false) := by show _ = _; rw [← toList_eq, ← toList_eq, bne, he]; rfl
              go_wp2_with fail
              have nn : Nonempty (KW wr) := ⟨⟨wr, Kept.refl wr⟩⟩
              refine wp_region_kept (by kernel_rfl) (by kernel_rfl) ?_
              repeat (go_big_quiet_step (fail))
              refine wpQuiet_nil ?_
              intro w6 hw6
              have k6 : Kept wo w6 := by
                obtain ⟨p, rfl⟩ := hw6
                exact kx.trans p.h
              clear hw6 nn t1 t2
              go_wp2
              go_roundw
              case rel => exact ⟨m + 1, true, by omega, rfl, by go_num, by rw [Hn.out, Hb.out]; simp, k6⟩
              case measure => simp [intOf]; omega
            | false =>
              have Hb : Hid ((p.data.toList != q.data.toList) = true) := by show _ = _; rw [← toList_eq, ← toList_eq, bne, he]; rfl
              go_wp2_with fail
              have nn : Nonempty (KW wr) := ⟨⟨wr, Kept.refl wr⟩⟩
              refine wp_region_kept (by kernel_rfl) (by kernel_rfl) ?_
              repeat (go_big_quiet_step (fail))
              refine wpQuiet_nil ?_
              intro w6 hw6
              have k6 : Kept wo w6 := by
                obtain ⟨p, rfl⟩ := hw6
                exact kx.trans p.h
              clear hw6 nn t1 t2
              go_wp2
              go_roundw
              case rel => exact ⟨m + 1, false, by omega, rfl, by go_num, by rw [Hn.out, Hb.out, ← HT.out]; rfl, k6⟩
              case measure => simp [intOf]; omega
        · have hme : m = ys.length := by omega
          subst hme
          rw [List.take_length] at HT
          have hck := (Below.cell kwx (p := ⟨b, off + k, none⟩) hb).trans Hc.out
          have hO := (HO.out.kept kx).1
          cases t with
          | true =>
            clear hck
            go_wp2
            go_roundw
            case rel => exact ⟨k + 1, by omega, by go_num, by rw [Hst.out, ← HT.out]; simpa using HO.out.kept kx, kwx⟩
            case measure => simp [intOf]; omega
          | false =>
            go_wp2_with (first | (at_builtin; refine wp_snocN hO _ rfl (by omega) kwx.size p rfl _ _ rfl rfl rfl ?_))
            intro g' cap' w3 hown3 hb3
            go_wp2
            go_roundw
            case rel => exact ⟨k + 1, by omega, by go_num, by rw [Hst.out, ← HT.out]; simpa using hown3, Below.trans kwx hb3⟩
            case measure => simp [intOf]; omega
    · have hke : k = xs.length := by omega
      subst hke
      rw [List.take_length] at HO
      go_wp2
      go_ret
      exact ⟨_, rfl, HO.out, kr⟩
end Go.Proofs.Ytlpkeimcklhdbaa
