/-
  The walk of the law CheckTorn.
-/
import Derived.Test.YthkfkcjhmhjocaaDoorKrowsl
import Derived.Test.YthkfkcjhmhjocaaDoorVbits
namespace Go.Proofs.YthkfkcjhmhjocaaDoor
open Go.ChangeShapes Go.WideShapes Go.ChangeAt Go.RowKit

/-- the ends of the first k sealed texts -/
def endsOf (z : Nat → ByteArray) (k : Nat) : List Value := (List.range k).map fun i => Value.int .i64 ((Ck.cat (rowsOf z (i + 1))).length : Int)
theorem endsOf_succ (z : Nat → ByteArray) (k : Nat) : endsOf z (k + 1) = endsOf z k ++ [.int .i64 ((Ck.cat (rowsOf z (k + 1))).length : Int)] := by simp [endsOf, List.range_succ]
theorem endsOf_at (z : Nat → ByteArray) (k i : Nat) (h : i < k) : (endsOf z k)[i]? = some (.int .i64 ((Ck.cat (rowsOf z (i + 1))).length : Int)) := by simp [endsOf, h]
theorem infoInt : (Tryd.prog.info? 3).map (fun i => (i.zero, i.size, i.bytes)) = some (some (.int .i64 0), 1, 8) := by kernel_rfl
theorem own_ints1 (w : World) : ((w.alloc (.cells #[] 9)).alloc (.cells #[] 3)).ownsRow w.heap.size 3 1 (.slice (some ⟨w.heap.size + 1, 0, none⟩) 0 0) 0 [] := by
  have h := heap_alloc_new (w.alloc (.cells #[] 9)) (.cells #[] 3)
  rw [show (w.alloc (.cells #[] 9)).heap.size = w.heap.size + 1 by simp] at h
  exact ⟨rfl, .inr ⟨w.heap.size + 1, 0, #[], rfl, by omega, h, Nat.le_refl _, Nat.zero_le _, rfl, rfl⟩⟩
theorem one_cell_int (w : World) (n : Int) : ∀ (j : Nat) (u : Value), [Value.int .i64 n][j]? = some u → (w.alloc (.cells #[.int .i64 n] 3)).cell? ((⟨w.heap.size, 0, none⟩ : Addr).add j) = some u := by
  intro j u hj
  match j, hj with
  | 0, hj => simp at hj; subst hj; simp [Addr.add]
theorem one_one_int (n : Int) : ∀ u ∈ [Value.int .i64 n], u.oneCell' = true := by
  intro u hu; simp at hu; subst hu; rfl

theorem own_apart {w : World} {base base' n n' size size' : Nat} {e e' : TypeId} {v v' : Value} {xs xs' : List Value} (h : w.ownsRow base e size v n xs) (h' : w.ownsRow base' e' size' v' n' xs') (hne : e ≠ e') : v.ownBlock = none ∨ v.ownBlock ≠ v'.ownBlock := by
  rcases h.2 with ⟨rfl, _⟩ | ⟨g, cap, cur, rfl, _, hg, _⟩
  · exact .inl rfl
  · right
    rcases h'.2 with ⟨rfl, _⟩ | ⟨g', cap', cur', rfl, _, hg', _⟩
    · simp [Value.ownBlock]
    · intro e1
      simp only [Value.ownBlock, Option.some.injEq] at e1
      subst e1
      rw [hg] at hg'
      injection hg' with hg'
      injection hg' with _ ht
      exact hne ht

theorem own_view {w : World} {base n : Nat} {e : TypeId} {v : Value} {xs : List Value} (h : w.ownsRow base e 1 v n xs) : ∃ a c, v = .slice a n c ∧ n ≤ c ∧ c ≤ maxLen ∧ (n = 0 ∨ ∃ g, a = some ⟨g, 0, none⟩ ∧ ∀ i, i < n → w.cell? ⟨g, i, none⟩ = xs[i]?) := by
  rcases h.2 with ⟨rfl, hn⟩ | ⟨g, cap, cur, rfl, hb, hg, h1, h2, _⟩
  · subst hn
    exact ⟨none, 0, rfl, Nat.le_refl _, Nat.zero_le _, .inl rfl⟩
  · exact ⟨_, cap, rfl, h1, h2, .inr ⟨g, rfl, fun i hi => World.ownsRow.cellAt h i (by omega)⟩⟩

/-- the first n of rows of the call's own -/
theorem strs_take {w : World} {base : Nat} {v : Value} {xs : List (List UInt8)} (h : OwnS w base v xs) (n : Nat) (hn : n ≤ xs.length) (a : Option Addr) (l c : Nat) (hv : v = .slice a l c) : Strs w (.slice a n c) (xs.take n) := by
  obtain ⟨a', c', hv', h1, h2, h3⟩ := h.strs
  rw [hv] at hv'
  simp only [Value.slice.injEq] at hv'
  obtain ⟨rfl, rfl, rfl⟩ := hv'
  refine ⟨a, c, by rw [List.length_take, Nat.min_eq_left hn], by rw [List.length_take]; omega, h2, ?_⟩
  rcases h3 with h3 | ⟨g, off, rfl, hg, hc⟩
  · exact .inl (by rw [h3]; simp)
  · refine .inr ⟨g, off, rfl, hg, fun i x hx => hc i x ?_⟩
    rw [List.getElem?_take] at hx
    split at hx
    · exact hx
    · cases hx
theorem rowsOf_take (z : Nat → ByteArray) (k i : Nat) (h : i ≤ k) : (rowsOf z k).take i = rowsOf z i := by
  simp only [rowsOf, ← List.map_take, List.take_range, Nat.min_eq_left h]

set_option maxHeartbeats 2000000 in
set_option maxRecDepth 100000 in
theorem ctorn_walk (av : Option Addr) (len cap : Nat) (z : Nat → ByteArray) (cut : Int) (w : World) (hl : StrArg w av len cap z) (_c0 : -9223372036854775808 ≤ cut) (_c1 : cut ≤ 9223372036854775807) (hT : Tab w) :
    Calls Tryd.prog 8 #[.slice av len cap, .int .i64 cut] w fun e w' => e = .returned (.bool true) ∧ Kept w w' := by
  obtain ⟨l1, l2, l3, l4⟩ := hl
  unfold maxLen at l2 l3
  have L3 := Lib.hid l3
  have L4 := Lib.hid l4
  clear l3 l4
  obtain ⟨i0, hi, hz0, hz1, hz2⟩ := info_parts infoStr
  have Hi := Lib.hid hi
  have Hz0 := Lib.hid hz0
  have Hz1 := Lib.hid hz1
  have Hz2 := Lib.hid hz2
  clear hi hz0 hz1 hz2
  obtain ⟨j0, hi, hz0, hz1, hz2⟩ := info_parts infoInt
  have Ji := Lib.hid hi
  have Jz0 := Lib.hid hz0
  have Jz1 := Lib.hid hz1
  have Jz2 := Lib.hid hz2
  clear hi hz0 hz1 hz2
  go_enter Tryd.func8, Tryd.ntmps8
  go_wp2
  go_loopw [5, 6, 7, 8] (fun a v e i wr => ∃ (k : Nat) (A : ByteArray), k ≤ len ∧ k ≤ 12 ∧ i = .int .i64 k ∧ a = .string A ∧ A.data.toList = Ck.cat (rowsOf z k) ∧ OwnS wr w.heap.size v (rowsOf z k) ∧ wr.ownsRow w.heap.size 3 1 e k (endsOf z k) ∧ Kept w wr) (fun _ _ _ i _ => len - (intOf i).toNat)
  case atStart => exact ⟨0, ⟨#[]⟩, Nat.zero_le _, Nat.zero_le _, rfl, rfl, rfl, World.ownsRow.alloc (own_empty w) _, own_ints1 w, Kept.alloc (Kept.alloc (Kept.refl _) _) _⟩
  case round =>
    obtain ⟨k, A, hk, hk12, rfl, rfl, hA, hown, hends, kr⟩ := hrel
    have hAs : A.size ≤ 53 * k := by rw [← size_len A, hA]; exact cat_len z k
    have HA := Lib.hid hA
    clear hA
    have tr := hT.kept kr
    by_cases hlt : k < len ∧ k < 12
    · obtain ⟨hlt1, hlt2⟩ := hlt
      obtain ⟨b, off, rfl, hb, hc⟩ := L4.out.resolve_left (by omega)
      have hck := (Below.cell kr (p := ⟨b, off + k, none⟩) hb).trans (hc k hlt1)
      have hzk := L3.out k
      clear hc
      go_wp2
      go_quiet (fail)
      have kq : Kept wr (wr.drewN nq) := below_drewN (Kept.refl wr) nq
      generalize wr.drewN nq = wq at kq ⊢
      go_wp2_with fail
      have hS := cut40 (z k)
      have sS := cut_size (z k) 40
      simp only [Int.cast_ofNat_Int] at sS
      generalize (z k).extract 0 (min ((z k).size : Int) 40).toNat = S at hS sS ⊢
      have HS := Lib.hid hS
      clear hS hck hzk
      refine (seal_any S _ (by omega) (tr.kept kq)).mono ?_
      rintro e w2 ⟨rfl, k2⟩
      obtain ⟨q, hq, sq, lq⟩ := name_str (Ck.seal_ S.data.toList)
      rw [hq]
      have hz := Vn.vsz_pos S.size
      have sq2 : q.size ≤ 53 := by rw [sq, Ck.seal_length, size_len]; omega
      have hcs := cat_succ z k
      rw [← HS.out, ← lq, ← HA.out, ← Array.toList_append, ← ByteArray.data_append] at hcs
      have hcl : (Ck.cat (rowsOf z (k + 1))).length = (A ++ q).size := by rw [hcs, size_len]
      have HCS := Lib.hid hcs
      have HCL := Lib.hid hcl
      clear hq sq lq hz hcs hcl
      have kr2 := (kr.trans kq).trans k2
      have hown2 := (hown.kept kq).kept k2
      have hends2 := own_kept (own_kept hends kq) k2
      have hrl := rowsOf_length z k
      have hrl2 : (rowsOf z k).length ≤ 12 := by omega
      clear hrl hown hends
      have hne : u6.ownBlock = none ∨ u6.ownBlock ≠ u7.ownBlock := own_apart hown2 hends2 (by decide)
      have hne2 : u7.ownBlock = none ∨ u7.ownBlock ≠ u6.ownBlock := own_apart hends2 hown2 (by decide)
      go_wp2_with (first
        | (at_builtin; refine wpList_append_own _ rfl _ _ 31 rfl w.heap.size 9 i0 (.string ⟨#[]⟩) 1 16 Tryd.underlying31 Hi.out Hz0.out Hz1.out Hz2.out rfl (by decide) _ _ _ rfl (World.ownsRow.alloc hown2 _) ⟨w2.heap.size, 0, none⟩ 1 1 [.string S] rfl rfl (one_cell _ _) (one_one _) (by unfold maxLen; omega) (by omega) (by have := kr2.size; simp; omega) ?_))
      intro v' w3 hown3 hgrow _
      have kr3 : Kept w w3 := kept_grown (kr2.alloc _) hgrow (fun k hk => (World.ownsRow.lt hown2 k hk).1)
      have hends3 := World.ownsRow.kept (World.ownsRow.alloc hends2 _) hgrow hne2
      have hown4 := own_snoc (x := S.data.toList) (by simp [str]) hown3
      have hne3 : v'.ownBlock = none ∨ v'.ownBlock ≠ u7.ownBlock := own_apart hown4 hends3 (by decide)
      clear hown3 hgrow hown2 hends2 hne hne2
      go_wp2_with (first
        | (at_builtin; refine wpList_append_own _ rfl _ _ 40 rfl w.heap.size 3 j0 (.int .i64 0) 1 8 Tryd.underlying40 Ji.out Jz0.out Jz1.out Jz2.out rfl (by decide) _ _ _ rfl (World.ownsRow.alloc hends3 _) ⟨w3.heap.size, 0, none⟩ 1 1 [.int .i64 ((A.size : Int) + (q.size : Int))] rfl rfl (one_cell_int _ _) (one_one_int _) (by unfold maxLen; omega) (by omega) (by have := kr3.size; simp; omega) ?_))
      intro v'' w4 hends4 hgrow _
      have kr4 : Kept w w4 := kept_grown (kr3.alloc _) hgrow (fun k hk => (World.ownsRow.lt hends3 k hk).1)
      have hown5 : OwnS w4 w.heap.size v' (rowsOf z k ++ [S.data.toList]) := World.ownsRow.kept (World.ownsRow.alloc hown4 _) hgrow hne3
      clear hgrow hown4 hends3 hne3
      go_wp2
      go_roundw
      case rel => exact ⟨k + 1, A ++ q, by omega, by omega, by go_num, rfl, by
                    rw [HCS.out], by rw [rowsOf_succ, ← HS.out]; exact hown5, by rw [endsOf_succ, HCL.out, ByteArray.size_append, Int.natCast_add]; exact hends4, kr4⟩
      case measure => simp [intOf]; omega
    · have hx : (k : Int) < len ∧ ¬ (k : Int) < 12 ∨ ¬ (k : Int) < len := by omega
      clear hlt
      obtain ⟨M, hM⟩ : ∃ M : Nat, bits BinOp.and IntKind.i64 cut 65535 = (M : Int) := ⟨(bits BinOp.and IntKind.i64 cut 65535).toNat, by have := and_mask cut 65535 (by decide); simp only [Int.cast_ofNat_Int] at this; omega⟩
      have r1 : (bits BinOp.and IntKind.i64 cut 65535).tmod ((A.size : Int) + 1) = ((M % (A.size + 1) : Nat) : Int) := by rw [hM, Int.tmod_eq_emod_of_nonneg (by omega)]; rfl
      have hJ : M % (A.size + 1) < A.size + 1 := Nat.mod_lt _ (by omega)
      generalize M % (A.size + 1) = K at r1 hJ
      clear hM
      have hK : K ≤ A.size := by omega
      have Hall := Lib.hid (Ck.all_take (rowsOf z k) K (rowsOf_short z k))
      have hwle := Ck.whole_le (rowsOf z k) K
      have hwe := Ck.whole_ends (rowsOf z k) K
      rw [rowsOf_length] at hwle hwe
      obtain ⟨N, hN⟩ : ∃ N, N = Ck.whole (rowsOf z k) K := ⟨_, rfl⟩
      rw [← hN, rowsOf_take z k N (by omega)] at Hall
      rw [← hN] at hwle
      have Hwe : Hid (∀ i, i < k → (i < N ↔ (Ck.cat (rowsOf z (i + 1))).length ≤ K)) := fun i hi => by rw [hN, ← rowsOf_take z k (i + 1) (by omega)]; exact hwe i hi
      clear hwe hN
      obtain ⟨a6, c6, rfl, c61, c62, _⟩ := own_view hown
      obtain ⟨a7, c7, rfl, c71, c72, c73⟩ := own_view hends
      unfold maxLen at c62 c72
      have C73 := Lib.hid c73
      clear c73
      rw [rowsOf_length] at c61
      have hown' : OwnS wr w.heap.size (.slice a6 k c6) (rowsOf z k) := by have := hown; rw [rowsOf_length] at this; exact this
      have HO := Lib.hid hown'
      rw [rowsOf_length]
      clear hown hown'
      rcases hx with ⟨h1, h2⟩ | h1
      all_goals
        go_wp2
        go_loop [11, 12] (fun n e => ∃ j : Nat, j ≤ N ∧ n = .int .i64 j ∧ e = .int .i64 (Ck.cat (rowsOf z j)).length) (fun n _ => k - (intOf n).toNat)
        case atStart => exact ⟨0, Nat.zero_le _, rfl, rfl⟩
        case round =>
          obtain ⟨j, hj, rfl, rfl⟩ := hrel
          obtain ⟨E, hE⟩ : ∃ E, E = (Ck.cat (rowsOf z (j + 1))).length := ⟨_, rfl⟩
          have hEb := cat_len z (j + 1)
          rw [← hE] at hEb
          by_cases hjk : j < k ∧ E ≤ K
          · obtain ⟨hjk, hEK⟩ := hjk
            obtain ⟨g, rfl, hc⟩ := C73.out.resolve_left (by omega)
            have hcj := hc j hjk
            rw [endsOf_at z k j hjk, ← hE] at hcj
            have hN := (Hwe.out j hjk).2 (by omega)
            have HE := Lib.hid hE
            clear hc hE
            go_wp2
            go_round
            case rel => exact ⟨j + 1, by omega, by go_num, by rw [HE.out]⟩
            case measure => simp [intOf]; omega
          · have hjN : j = N := by
              by_cases h3 : j < k
              · have := Hwe.out j h3
                rw [← hE] at this
                omega
              · omega
            subst hjN
            obtain ⟨P, hP⟩ : ∃ P, P = (Ck.cat (rowsOf z j)).length := ⟨_, rfl⟩
            have HP := Lib.hid hP
            rw [← hP]
            clear hP
            have hEx : (A.extract 0 K).data.toList = (Ck.cat (rowsOf z k)).take K := by rw [extract0, HA.out]
            have HEx := Lib.hid hEx
            clear hEx
            have hy : (∃ g, a7 = some ⟨g, 0, none⟩ ∧ wr.cell? ⟨g, j, none⟩ = some (.int .i64 (E : Int))) ∧ (j : Int) < k ∧ ¬ (E : Int) ≤ K ∨ ¬ (j : Int) < k := by
              by_cases h3 : j < k
              · obtain ⟨g, rfl, hc⟩ := C73.out.resolve_left (by omega)
                refine .inl ⟨⟨g, rfl, ?_⟩, by omega, by omega⟩
                rw [hc j h3, endsOf_at z k j h3, ← hE]
              · exact .inr (by omega)
            clear hjk hE
            rcases hy with ⟨⟨g, rfl, hcj⟩, h3, h4⟩ | h3
            all_goals
              go_wp2_with fail
              refine (all_any _ _ (by rw [ByteArray.size_extract]; omega) tr).mono ?_
              rintro e w2 ⟨v2, rfl, o2, k2⟩
              rw [HEx.out, Hall.out] at o2
              rw [HEx.out, Hall.out]
              simp only
              rw [← HP.out]
              have hst := strs_take (HO.out.kept k2) j (by rw [rowsOf_length]; omega) a6 k c6 rfl
              rw [rowsOf_take z k j (by omega)] at hst
              go_wp2_with fail
              refine (same_any _ _ _ _ _ o2.strs hst).mono ?_
              rintro e w3 ⟨rfl, k3⟩
              rw [show (rowsOf z j == rowsOf z j) = true from by simp]
              go_wp2_with fail
              refine (fixed2_any _ ((tr.kept k2).kept k3)).mono ?_
              rintro e w4 ⟨rfl, k4⟩
              go_wp2
              go_ret
              exact ⟨rfl, ((kr.trans k2).trans k3).trans k4⟩
end Go.Proofs.YthkfkcjhmhjocaaDoor
