/-
  The document's own least: the walks of rivuletref05.Least, Lets, Holds, Diff, Join.
-/
import Derived.Test.YtlpkeimcklhdbaaOref
namespace Go.Proofs.Ytlpkeimcklhdbaa
open Go.ChangeShapes Go.WideShapes Go.ChangeAt Go.RowKit

set_option maxHeartbeats 1000000 in
set_option maxRecDepth 100000 in
theorem rlets_any (v : Value) (xs : List (List UInt8)) (t : ByteArray) (w : World) (hS : Strs w v xs) (hs : ∀ x ∈ xs, x.length ≤ 900) (ht : t.size ≤ 900) :
    Calls Try.prog 20 #[v, .string t] w fun e w' => e = .returned (.bool (Tp.lets xs t.data.toList)) ∧ Kept w w' := by
  obtain ⟨a, cap, rfl, hc1, hc2, hat⟩ := strs_get hS
  have HA := Lib.hid hat
  have HS := Lib.hid hs
  clear hat hs hS
  unfold maxLen at hc2
  go_enter Try.func20, Try.ntmps20
  go_wp2
  go_loopw [5] (fun i wr => ∃ k : Nat, k ≤ xs.length ∧ i = .int .i64 k ∧ (xs.take k).any (fun x => Tp.match_ x t.data.toList) = false ∧ Kept w wr) (fun i _ => xs.length - (intOf i).toNat)
  case atStart => exact ⟨0, Nat.zero_le _, rfl, rfl, Kept.refl _⟩
  case round =>
    obtain ⟨k, hk, rfl, hno, kr⟩ := hrel
    have HN := Lib.hid hno
    clear hno
    by_cases hlt : k < xs.length
    · obtain ⟨b, off, p, rfl, hb, hc, lp⟩ := HA.out k hlt
      have hck := (Below.cell kr (p := ⟨b, off + k, none⟩) hb).trans hc
      have hps : p.size ≤ 900 := by rw [← str_size p, lp]; exact HS.out _ (List.getElem_mem hlt)
      have LP := Lib.hid lp
      clear hc lp
      go_wp2_with fail
      refine (rmatch_any p t _ (by omega) (by omega)).mono ?_
      rintro e w1 ⟨rfl, k1⟩
      cases hm : Tp.match_ p.data.toList t.data.toList with
      | true =>
        have Hy : Hid (Tp.lets xs t.data.toList = true) := (Tp.lets_iff _ _).2 ⟨_, List.getElem_mem hlt, by rw [← LP.out]; exact hm⟩
        clear hm
        go_wp2
        go_ret
        exact ⟨by rw [Hy.out]; rfl, kr.trans k1⟩
      | false =>
        have Hn : Hid ((xs.take (k + 1)).any (fun x => Tp.match_ x t.data.toList) = false) := by
          show _ = _
          rw [List.take_add_one, List.getElem?_eq_getElem hlt, List.any_append, HN.out]
          simp [← LP.out, hm]
        clear hm
        go_wp2
        go_roundw
        case rel => exact ⟨k + 1, by omega, by go_num, Hn.out, kr.trans k1⟩
        case measure => simp [intOf]; omega
    · have hke : k = xs.length := by omega
      subst hke
      go_wp2
      go_ret
      refine ⟨?_, kr⟩
      have := HN.out
      rw [List.take_length] at this
      rw [Tp.lets, this]
      rfl

set_option maxHeartbeats 1000000 in
set_option maxRecDepth 100000 in
theorem rholds_any (v : Value) (xs : List (List UInt8)) (t : ByteArray) (w : World) (hS : Strs w v xs) (hs : ∀ x ∈ xs, x.length ≤ 900) (ht : t.size ≤ 900) :
    Calls Try.prog 22 #[v, .string t] w fun e w' => e = .returned (.bool (Tp.holds xs t.data.toList)) ∧ Kept w w' := by
  obtain ⟨a, cap, rfl, hc1, hc2, hat⟩ := strs_get hS
  have HA := Lib.hid hat
  have HS := Lib.hid hs
  clear hat hs hS
  unfold maxLen at hc2
  go_enter Try.func22, Try.ntmps22
  go_wp2
  go_loopw [5] (fun i wr => ∃ k : Nat, k ≤ xs.length ∧ i = .int .i64 k ∧ (xs.take k).any (fun x => Tp.covers x t.data.toList) = false ∧ Kept w wr) (fun i _ => xs.length - (intOf i).toNat)
  case atStart => exact ⟨0, Nat.zero_le _, rfl, rfl, Kept.refl _⟩
  case round =>
    obtain ⟨k, hk, rfl, hno, kr⟩ := hrel
    have HN := Lib.hid hno
    clear hno
    by_cases hlt : k < xs.length
    · obtain ⟨b, off, p, rfl, hb, hc, lp⟩ := HA.out k hlt
      have hck := (Below.cell kr (p := ⟨b, off + k, none⟩) hb).trans hc
      have hps : p.size ≤ 900 := by rw [← str_size p, lp]; exact HS.out _ (List.getElem_mem hlt)
      have LP := Lib.hid lp
      clear hc lp
      go_wp2_with fail
      refine (rcovers_any p t _ (by omega) (by omega)).mono ?_
      rintro e w1 ⟨rfl, k1⟩
      cases hm : Tp.covers p.data.toList t.data.toList with
      | true =>
        have Hy : Hid (Tp.holds xs t.data.toList = true) := (Tp.holds_iff _ _).2 ⟨_, List.getElem_mem hlt, by rw [← LP.out]; exact hm⟩
        clear hm
        go_wp2
        go_ret
        exact ⟨by rw [Hy.out]; rfl, kr.trans k1⟩
      | false =>
        have Hn : Hid ((xs.take (k + 1)).any (fun x => Tp.covers x t.data.toList) = false) := by
          show _ = _
          rw [List.take_add_one, List.getElem?_eq_getElem hlt, List.any_append, HN.out]
          simp [← LP.out, hm]
        clear hm
        go_wp2
        go_roundw
        case rel => exact ⟨k + 1, by omega, by go_num, Hn.out, kr.trans k1⟩
        case measure => simp [intOf]; omega
    · have hke : k = xs.length := by omega
      subst hke
      go_wp2
      go_ret
      refine ⟨?_, kr⟩
      have := HN.out
      rw [List.take_length] at this
      rw [Tp.holds, this]
      rfl

set_option maxHeartbeats 1000000 in
set_option maxRecDepth 100000 in
theorem rdiff_any (v1 v2 : Value) (xs ys : List (List UInt8)) (w : World) (hS1 : Strs w v1 xs) (hS2 : Strs w v2 ys) (lx : xs.length ≤ 1000) (ly : ys.length ≤ 1000) (sx : ∀ x ∈ xs, x.length ≤ 1000) (sy : ∀ x ∈ ys, x.length ≤ 1000) :
    Calls Try.prog 18 #[v1, v2] w fun e w' => ∃ c g, e = .returned (.tuple #[c, g]) ∧ OwnS w' w.heap.size c (Tp.wout (Tp.clean ys) (Tp.clean xs)) ∧ OwnS w' w.heap.size g (Tp.wout (Tp.clean xs) (Tp.clean ys)) ∧ Kept w w' := by
  have C1 := Lib.hid (rclean_any v1 xs w hS1 lx sx)
  have C2 := Lib.hid (fun W (k : Kept w W) => rclean_any v2 ys W (hS2.kept k) ly sy)
  clear hS1 hS2 sx sy
  have hx := Tp.clean_len xs
  have hy := Tp.clean_len ys
  go_enter Try.func18, Try.ntmps18
  go_wp2_with fail
  refine C1.out.mono ?_
  rintro e w1 ⟨u1, rfl, o1, k1⟩
  go_wp2_with fail
  refine (C2.out w1 k1).mono ?_
  rintro e w2 ⟨u2, rfl, o2, k2⟩
  have K2 := k1.trans k2
  have O1 := Lib.hid (o1.kept k2).1
  have O2 := Lib.hid o2.1
  clear o1 o2
  go_wp2_with fail
  refine (rwithout_any u2 u1 _ _ w2 O2.out.strs O1.out.strs (by omega)).mono ?_
  rintro e w3 ⟨u3, rfl, o3, k3⟩
  have O3 := Lib.hid o3.1
  clear o3
  go_wp2_with fail
  refine (rwithout_any u1 u2 _ _ w3 (O1.out.kept k3).strs (O2.out.kept k3).strs (by omega)).mono ?_
  rintro e w4 ⟨u4, rfl, o4, k4⟩
  have K3 := K2.trans k3
  go_wp2
  go_ret2
  exact ⟨_, _, rfl, (O3.out.kept k4).mono K2.size, o4.1.mono K3.size, K3.trans k4⟩

/-- what the document's least asks of two -/
theorem stays_doc {c : List (List UInt8)} (h : Tp.Ord c) (i k : Nat) (hi : i < c.length) (hk : k < c.length) :
    Tp.stays c[i] c[k] = (decide (k = i) || !Tp.covers c[k] c[i] || !(!Tp.covers c[i] c[k] || Tp.less c[k] c[i])) := by
  by_cases e : k = i
  · subst e; simp [Tp.stays]
  · have hne : c[i] ≠ c[k] := by
      intro q
      rcases Nat.lt_or_gt_of_ne e with l | l
      · have := List.pairwise_iff_getElem.1 h k i hk hi l; rw [q, Tp.less_irrefl] at this; cases this
      · have := List.pairwise_iff_getElem.1 h i k hi hk l; rw [q, Tp.less_irrefl] at this; cases this
    have h1 : (c[i] == c[k]) = false := beq_eq_false_iff_ne.2 hne
    rw [Tp.stays, h1, decide_eq_false e]
    rcases Tp.less_total hne with ⟨a, b⟩ | ⟨a, b⟩ <;> rw [a, b] <;> simp

/-- the least so far -/
def lsel (c : List (List UInt8)) (k : Nat) : List (List UInt8) := (c.take k).filter fun x => c.all fun y => Tp.stays x y
theorem lsel_next (c : List (List UInt8)) (k : Nat) (h : k < c.length) : lsel c (k + 1) = lsel c k ++ (if (c.all fun y => Tp.stays c[k] y) = true then [c[k]] else []) := by
  unfold lsel
  rw [List.take_add_one, List.getElem?_eq_getElem h, List.filter_append]
  congr 1
  simp only [Option.toList_some, List.filter_cons, List.filter_nil]

set_option maxHeartbeats 4000000 in
set_option maxRecDepth 100000 in
theorem rleast_any (v : Value) (xs : List (List UInt8)) (w : World) (hS : Strs w v xs) (hl : xs.length ≤ 1000) (hs : ∀ x ∈ xs, x.length ≤ 900) :
    Calls Try.prog 13 #[v] w fun e w' => ∃ v', e = .returned v' ∧ OwnN w' w.heap.size v' (Tp.least xs) ∧ Kept w w' := by
  have C0 := Lib.hid (rclean_any v xs w hS hl (fun x hx => Nat.le_trans (hs x hx) (by omega)))
  have HS := Lib.hid (show ∀ x ∈ Tp.clean xs, x.length ≤ 900 from fun x hx => hs x ((Tp.clean_mem xs x).1 hx).1)
  have hcl := Tp.clean_len xs
  have Hor := Lib.hid (Tp.clean_ord xs)
  have Hle : Hid (Tp.least xs = lsel (Tp.clean xs) (Tp.clean xs).length) := by show _ = _; unfold lsel; rw [List.take_length]; rfl
  clear hs hS
  go_enter Try.func13, Try.ntmps13
  go_wp2_with fail
  refine C0.out.mono ?_
  rintro e w1 ⟨u1, rfl, o1, k1⟩
  obtain ⟨c, hc⟩ : ∃ c, Tp.clean xs = c := ⟨_, rfl⟩
  rw [hc] at o1 HS hcl Hor Hle
  obtain ⟨a, cap, rfl, hc1, hc2, hat⟩ := strs_get o1.1.strs
  unfold maxLen at hc2
  have HA := Lib.hid hat
  clear hat o1 C0 hc
  go_wp2
  go_loopw [4, 5] (fun r i wr => ∃ k : Nat, k ≤ c.length ∧ i = .int .i64 k ∧ OwnN wr w1.heap.size r (lsel c k) ∧ Kept w1 wr) (fun _ i _ => c.length - (intOf i).toNat)
  case atStart => exact ⟨0, Nat.zero_le _, rfl, OwnN.empty w1, Kept.alloc (Kept.refl _) _⟩
  case round =>
    obtain ⟨k, hk, rfl, hown, kr⟩ := hrel
    obtain ⟨wo, rfl⟩ : ∃ wo, wo = wr := ⟨_, rfl⟩
    have HO := Lib.hid hown
    clear hown
    by_cases hlt : k < c.length
    · obtain ⟨b, off, p, rfl, hb, hpc, lp⟩ := HA.out k hlt
      have hps : p.size ≤ 900 := by rw [← str_size p, lp]; exact HS.out _ (List.getElem_mem hlt)
      have Hst : Hid (lsel c (k + 1) = lsel c k ++ (if (c.all fun y => Tp.stays p.data.toList y) = true then [p.data.toList] else [])) := by show _ = _; rw [lp]; exact lsel_next c k hlt
      have hwl : (lsel c k).length ≤ 1000 := Nat.le_trans (List.length_filter_le _ _) (by rw [List.length_take]; omega)
      have Hc := Lib.hid hpc
      have LP := Lib.hid lp
      clear hpc lp
      go_wp2
      go_loopw [6, 7] (fun t j wx => ∃ (m : Nat) (s : Bool), m ≤ c.length ∧ t = .bool s ∧ j = .int .i64 m ∧ s = ((c.take m).all fun y => Tp.stays p.data.toList y) ∧ Kept wo wx) (fun _ j _ => c.length - (intOf j).toNat)
      case atStart => exact ⟨0, true, Nat.zero_le _, rfl, rfl, rfl, Kept.refl _⟩
      case round =>
        obtain ⟨m, s, hm, rfl, rfl, ht, kx⟩ := hrel
        have HT := Lib.hid ht
        clear ht
        have kwx := kr.trans kx
        by_cases hmt : m < c.length
        · obtain ⟨b2, off2, q, hbo, hb2, hq, lq⟩ := HA.out m hmt
          cases hbo
          have hqs : q.size ≤ 900 := by rw [← str_size q, lq]; exact HS.out _ (List.getElem_mem hmt)
          have t1 := KW.cell ((Below.cell kwx (p := ⟨b, off + k, none⟩) hb).trans Hc.out)
          have t2 := KW.cell ((Below.cell kwx (p := ⟨b, off + m, none⟩) hb2).trans hq)
          have T1 := Lib.hid ((Below.cell kwx (p := ⟨b, off + k, none⟩) hb).trans Hc.out)
          have T2 := Lib.hid ((Below.cell kwx (p := ⟨b, off + m, none⟩) hb2).trans hq)
          have Hn : Hid (((c.take (m + 1)).all fun y => Tp.stays p.data.toList y) = (s && (decide (m = k) || !Tp.covers q.data.toList p.data.toList || !(!Tp.covers p.data.toList q.data.toList || Tp.less q.data.toList p.data.toList)))) := by
            show _ = _
            have := stays_doc Hor.out k m hlt hmt
            rw [← LP.out, ← lq] at this
            rw [List.take_add_one, List.getElem?_eq_getElem hmt, List.all_append, ← lq, ← HT.out, ← this]
            simp
          clear hq lq
          by_cases hmk : m = k
          · have e0 : ((m : Int) == (k : Int)) = true := by simp [hmk]
            rw [decide_eq_true hmk] at Hn
            have Hmk := Lib.hid hmk
            clear hmk
            go_wp2_with fail
            have nn : Nonempty (KW wr) := ⟨⟨wr, Kept.refl wr⟩⟩
            refine wp_region_kept (by kernel_rfl) (by kernel_rfl) ?_
            repeat (go_big_quiet_step (fail))
            refine wpQuiet_nil ?_
            intro w6 hw6
            have k6 : Kept wo w6 := by
              obtain ⟨p, rfl⟩ := hw6
              exact kx.trans p.h
            clear hw6 nn t1 t2
            go_wp2
            go_roundw
            case rel => exact ⟨m + 1, s, by omega, rfl, by go_num, by rw [Hn.out]; simp, k6⟩
            case measure => simp [intOf]; omega
          · have e0 : ((m : Int) == (k : Int)) = false := by rw [beq_eq_false_iff_ne]; omega
            rw [decide_eq_false hmk] at Hn
            have ca : ∀ x : KW wr, Calls Try.prog 24 #[.string q, .string p] x.v fun e w' => e = .returned (.bool (Tp.covers q.data.toList p.data.toList)) ∧ Kept x.v w' := fun x => rcovers_any q p x.v (by omega) (by omega)
            have CA := Lib.hid ca
            clear ca
            cases hc1' : Tp.covers q.data.toList p.data.toList with
            | false =>
              rw [hc1'] at Hn CA
              clear hc1'
              go_wp2_with fail
              have nn : Nonempty (KW wr) := ⟨⟨wr, Kept.refl wr⟩⟩
              refine wp_region_kept (by kernel_rfl) (by kernel_rfl) ?_
              repeat (go_big_quiet_step ((go_at_call 24; exact KW.calls _ (CA.out _))))
              refine wpQuiet_nil ?_
              intro w6 hw6
              have k6 : Kept wo w6 := by
                obtain ⟨p, rfl⟩ := hw6
                exact kx.trans p.h
              clear hw6 nn t1 t2
              go_wp2
              go_roundw
              case rel => exact ⟨m + 1, s, by omega, rfl, by go_num, by rw [Hn.out]; simp, k6⟩
              case measure => simp [intOf]; omega
            | true =>
              rw [hc1'] at Hn CA
              clear hc1'
              go_wp2_with fail
              have nn : Nonempty (KW wr) := ⟨⟨wr, Kept.refl wr⟩⟩
              refine wp_region_kept (by kernel_rfl) (by kernel_rfl) ?_
              repeat (go_big_quiet_step ((go_at_call 24; exact KW.calls _ (CA.out _))))
              refine wpQuiet_nil ?_
              intro w6 hw6
              have k06 : Kept wr w6 := by
                obtain ⟨p, rfl⟩ := hw6
                exact p.h
              have k6 := kx.trans k06
              have y1 := KW.cell ((Below.cell k06 (p := ⟨b, off + k, none⟩) (World.block_lt_of_cell? wr _ T1.out)).trans T1.out)
              have y2 := KW.cell ((Below.cell k06 (p := ⟨b, off + m, none⟩) (World.block_lt_of_cell? wr _ T2.out)).trans T2.out)
              have cb : ∀ x : KW w6, Calls Try.prog 24 #[.string p, .string q] x.v fun e w' => e = .returned (.bool (Tp.covers p.data.toList q.data.toList)) ∧ Kept x.v w' := fun x => rcovers_any p q x.v (by omega) (by omega)
              have cl : ∀ x : KW w6, Calls Try.prog 33 #[.string q, .string p] x.v fun e w' => e = .returned (.bool (Tp.less q.data.toList p.data.toList)) ∧ Kept x.v w' := fun x => rless_any q p x.v (by omega) (by omega)
              have CB := Lib.hid cb
              have CL := Lib.hid cl
              clear hw6 nn t1 t2 CA cb cl e0
              cases hc2' : Tp.covers p.data.toList q.data.toList with
              | false =>
                rw [hc2'] at Hn CB
                clear hc2'
                go_wp2_with fail
                have nn : Nonempty (KW w6) := ⟨⟨w6, Kept.refl w6⟩⟩
                refine wp_region_kept (by kernel_rfl) (by kernel_rfl) ?_
                repeat (go_big_quiet_step ((go_at_call 24; exact KW.calls _ (CB.out _))))
                refine wpQuiet_nil ?_
                intro w7 hw7
                have k7 : Kept wo w7 := by
                  obtain ⟨p, rfl⟩ := hw7
                  exact k6.trans p.h
                clear hw7 nn y1 y2
                go_wp2
                go_roundw
                case rel => exact ⟨m + 1, false, by omega, rfl, by go_num, by rw [Hn.out]; simp, k7⟩
                case measure => simp [intOf]; omega
              | true =>
                rw [hc2'] at Hn CB
                clear hc2'
                cases hc3 : Tp.less q.data.toList p.data.toList with
                | true =>
                  rw [hc3] at Hn CL
                  clear hc3
                  go_wp2_with fail
                  have nn : Nonempty (KW w6) := ⟨⟨w6, Kept.refl w6⟩⟩
                  refine wp_region_kept (by kernel_rfl) (by kernel_rfl) ?_
                  repeat (go_big_quiet_step (first | (go_at_call 24; exact KW.calls _ (CB.out _)) | (go_at_call 33; exact KW.calls _ (CL.out _))))
                  refine wpQuiet_nil ?_
                  intro w7 hw7
                  have k7 : Kept wo w7 := by
                    obtain ⟨p, rfl⟩ := hw7
                    exact k6.trans p.h
                  clear hw7 nn y1 y2
                  go_wp2
                  go_roundw
                  case rel => exact ⟨m + 1, false, by omega, rfl, by go_num, by rw [Hn.out]; simp, k7⟩
                  case measure => simp [intOf]; omega
                | false =>
                  rw [hc3] at Hn CL
                  clear hc3
                  go_wp2_with fail
                  have nn : Nonempty (KW w6) := ⟨⟨w6, Kept.refl w6⟩⟩
                  refine wp_region_kept (by kernel_rfl) (by kernel_rfl) ?_
                  repeat (go_big_quiet_step (first | (go_at_call 24; exact KW.calls _ (CB.out _)) | (go_at_call 33; exact KW.calls _ (CL.out _))))
                  refine wpQuiet_nil ?_
                  intro w7 hw7
                  have k7 : Kept wo w7 := by
                    obtain ⟨p, rfl⟩ := hw7
                    exact k6.trans p.h
                  clear hw7 nn y1 y2
                  go_wp2
                  go_roundw
                  case rel => exact ⟨m + 1, s, by omega, rfl, by go_num, by rw [Hn.out]; simp, k7⟩
                  case measure => simp [intOf]; omega
        · have hme : m = c.length := by omega
          subst hme
          rw [List.take_length] at HT
          have hck := (Below.cell kwx (p := ⟨b, off + k, none⟩) hb).trans Hc.out
          have hO := (HO.out.kept kx).1
          cases s with
          | false =>
            clear hck
            go_wp2
            go_roundw
            case rel => exact ⟨k + 1, by omega, by go_num, by rw [Hst.out, ← HT.out]; simpa using HO.out.kept kx, kwx⟩
            case measure => simp [intOf]; omega
          | true =>
            go_wp2_with (first | (at_builtin; refine wp_snocN hO _ rfl (by omega) kwx.size p rfl _ _ rfl rfl rfl ?_))
            intro g' cap' w3 hown3 hb3
            go_wp2
            go_roundw
            case rel => exact ⟨k + 1, by omega, by go_num, by rw [Hst.out, ← HT.out]; simpa using hown3, Below.trans kwx hb3⟩
            case measure => simp [intOf]; omega
    · have hke : k = c.length := by omega
      subst hke
      go_wp2
      go_ret
      exact ⟨_, rfl, by rw [Hle.out]; exact HO.out.mono k1.size, k1.trans kr⟩

set_option maxHeartbeats 1000000 in
set_option maxRecDepth 100000 in
theorem rjoin_any (v1 v2 : Value) (xs ys : List (List UInt8)) (b1 b2 : Nat) (w : World) (h1 : OwnS w b1 v1 xs) (h2 : OwnS w b2 v2 ys) (lx : xs.length ≤ 400) (ly : ys.length ≤ 400) (sx : ∀ x ∈ xs, x.length ≤ 900) (sy : ∀ x ∈ ys, x.length ≤ 900) :
    Calls Try.prog 15 #[v1, v2] w fun e w' => ∃ v', e = .returned v' ∧ OwnN w' w.heap.size v' (Tp.least (xs ++ ys)) ∧ Kept w w' := by
  have H1 := Lib.hid (h1.kept (Kept.alloc (Kept.refl w) (.cells #[] 9)))
  have H2 := Lib.hid h2
  have Hs : Hid (∀ x ∈ xs ++ ys, x.length ≤ 900) := fun x hx => by
    rcases List.mem_append.1 hx with h | h
    · exact sx x h
    · exact sy x h
  have HL := Lib.hid (show (xs ++ ys).length ≤ 1000 by rw [List.length_append]; omega)
  clear h1 h2 sx sy
  go_enter Try.func15, Try.ntmps15
  go_wp2_with (first | (at_builtin; refine wp_own (OwnN.empty w).1 H1.out (by simp; omega) (by simp) rfl _ _ rfl rfl rfl ?_))
  intro v3 w3 o3 b3 _
  have k3 : Kept w w3 := Below.trans (Kept.alloc (Kept.refl w) _) b3
  have O3 : Hid (OwnS w3 w.heap.size v3 xs) := by show OwnS w3 w.heap.size v3 xs; simpa using o3
  clear o3
  go_wp2_with (first | (at_builtin; refine wp_own O3.out (H2.out.kept k3) (by omega) k3.size rfl _ _ rfl rfl rfl ?_))
  intro v4 w4 o4 b4 _
  have k4 : Kept w w4 := Below.trans k3 b4
  have O4 := Lib.hid o4
  clear o4
  go_wp2_with fail
  refine (rleast_any v4 _ w4 O4.out.strs HL.out Hs.out).mono ?_
  rintro e w5 ⟨v5, rfl, o5, k5⟩
  go_wp2
  go_ret
  exact ⟨_, rfl, o5.mono k4.size, k4.trans k5⟩
end Go.Proofs.Ytlpkeimcklhdbaa
