/-
  Boxes in memory; the walks of package mail.
-/
import Derived.Test.YtcachpcefeoolaaMrow
import Derived.Deep.DeepCutAuto
import Derived.Deep.RegionHeld3
namespace Go.Proofs.Ytcachpcefeoolaa
open Go.ChangeShapes Go.WideShapes Go.ChangeAt Go.RowKit

/-- the first text, or the empty one -/
def hd (l : List ByteArray) : ByteArray := l.headD ⟨#[]⟩
/-- so many have gone round -/
def rot (i : Nat) (l : List ByteArray) : List ByteArray := l.drop i ++ l.take i
theorem rot_zero (l : List ByteArray) : rot 0 l = l := by simp [rot]
theorem rot_len (l : List ByteArray) : rot l.length l = l := by simp [rot]
theorem rot_step {i : Nat} {l : List ByteArray} (h : i < l.length) : ∃ t, rot i l = l[i] :: t ∧ t ++ [l[i]] = rot (i + 1) l ∧ t.length + 1 = l.length := by
  refine ⟨l.drop (i + 1) ++ l.take i, ?_, ?_, ?_⟩
  · unfold rot; rw [List.drop_eq_getElem_cons h]; rfl
  · unfold rot; rw [List.append_assoc, List.take_append_getElem h]
  · simp; omega

theorem len_chan {w : World} {c cap : Nat} {l : List ByteArray} (h : Ch w c cap l) (ty : TypeId) : (Builtin.len_ #[52] ty #[.chan (some c)]).run Try.prog w = .ok (goInt l.length) w := by
  obtain ⟨s, r, h⟩ := h
  rw [Go.Conc.run_len_chan (P := Try.prog) 52 ty Try.underlying52 h, bufv_size]
theorem cap_chan {w : World} {c cap : Nat} {l : List ByteArray} (h : Ch w c cap l) (ty : TypeId) : (Builtin.cap_ #[52] ty #[.chan (some c)]).run Try.prog w = .ok (goInt cap) w := by
  obtain ⟨s, r, h⟩ := h
  exact Go.Conc.run_cap_chan (P := Try.prog) 52 ty Try.underlying52 h

theorem ret_newRow (tmps : Array Value) (W : World) (R c : Nat) (h2 : tmps[2]? = some (.pointer (some ⟨R, 0, none⟩))) (hc : W.cell? ⟨R, 0, none⟩ = some (.chan (some c))) :
    (results Try.f27 tmps).run Try.prog W = .ok (.agg #[.chan (some c)]) W := by
  simp [results, Try.f27, go_sem, h2, hc]
set_option maxHeartbeats 400000 in
theorem newRow_any (n : Nat) (hn : n ≤ 256) (w : World) :
    Calls Try.prog 27 #[.int .i64 n] w fun e w' => ∃ c, e = .returned (.agg #[.chan (some c)]) ∧ w.heap.size ≤ c ∧ Ch w' c n [] ∧ Kept w w' := by
  have f1 := make_chan n hn
  go_enter Try.func27, Try.ntmps27
  go_wp2
  have K1 : Kept w (w.alloc (Obj.cells #[Value.chan (some (w.heap.size + 1))] 54)) := (Kept.refl w).alloc _
  have hc : ((w.alloc (Obj.cells #[Value.chan (some (w.heap.size + 1))] 54)).alloc (Obj.chan n #[] false 0 0 false)).cell? ⟨w.heap.size, 0, none⟩ = some (.chan (some (w.heap.size + 1))) :=
    (Below.cell ((Kept.refl _).alloc (Obj.chan n #[] false 0 0 false)) (p := ⟨w.heap.size, 0, none⟩) (by rw [World.size_alloc]; exact Nat.lt_succ_self _)).trans (World.cell?_alloc_at _ _ _ _ rfl)
  refine bodyPost_ret (ret_newRow _ _ w.heap.size (w.heap.size + 1) rfl hc) rfl ⟨_, rfl, Nat.le_succ _, ⟨0, 0, ?_⟩, K1.alloc _⟩
  have := heap_alloc_new (w.alloc (Obj.cells #[Value.chan (some (w.heap.size + 1))] 54)) (Obj.chan n #[] false 0 0 false)
  rw [World.size_alloc] at this
  exact this

set_option maxHeartbeats 400000 in
set_option maxRecDepth 100000 in
theorem rfirst_any (c cap : Nat) (l : List ByteArray) (w : World) (h : Ch w c cap l) (hf : l.length ≤ cap) (hc : cap ≤ 256) :
    Calls Try.prog 31 #[.agg #[.chan (some c)]] w fun e w' => e = .returned (.tuple #[.string (hd l), .bool (decide (0 < l.length))]) ∧ Ch w' c cap l ∧ But (fun i => i = c) w w' := by
  have h0 := h.kept ((Kept.refl w).alloc (.cells #[.chan (some c)] 54))
  have f0 := len_chan h0
  have hlt := h.lt
  have H0 := Lib.hid h0
  clear h0
  go_enter Try.func31, Try.ntmps31
  go_wp2
  clear f0
  go_loopw [4, 10] (fun fv iv wr => ∃ k : Nat, k ≤ l.length ∧ iv = .int .i64 k ∧ fv = .string (if k = 0 then ⟨#[]⟩ else hd l) ∧ Ch wr c cap (rot k l) ∧ But (fun i => i = c) (w.alloc (.cells #[.chan (some c)] 54)) wr) (fun _ iv _ => l.length - (intOf iv).toNat)
  case atStart => exact ⟨0, Nat.zero_le _, rfl, rfl, by rw [rot_zero]; exact H0.out, But.refl _ _⟩
  case round =>
    obtain ⟨k, hk, rfl, rfl, hch, hb⟩ := hrel
    have hcell : wr.cell? ⟨w.heap.size, 0, none⟩ = some (.chan (some c)) :=
      (hb.cell (p := ⟨w.heap.size, 0, none⟩) (by rw [World.size_alloc]; exact Nat.lt_succ_self _) (Nat.ne_of_gt hlt)).trans (World.cell?_alloc_at _ _ _ _ rfl)
    have Hb := Lib.hid hb
    have Hch := Lib.hid hch
    clear hb hch
    generalize hF : (if k = 0 then (⟨#[]⟩ : ByteArray) else hd l) = F
    have HF := Lib.hid hF
    clear hF
    by_cases hkl : k < l.length
    · obtain ⟨t, e1, e2, e3⟩ := rot_step hkl
      have Hx : Hid (k = 0 → l[k] = hd l) := fun h0 => by subst h0; cases l with | nil => cases hkl | cons a t => rfl
      generalize l[k] = x at e1 e2 Hx
      have ch' := Hch.out
      rw [e1] at ch'
      have E2 := Lib.hid e2
      clear e1 e2
      go_wp2_with fail
      refine (next_any c cap t x wr ch' (by omega)).mono ?_
      rintro e w1 ⟨rfl, ch1, b1⟩
      rw [E2.out] at ch1
      have Hch1 := Lib.hid ch1
      have Hb1 := Lib.hid (Hb.out.trans b1 fun _ _ h => h)
      clear ch1 b1 ch'
      by_cases hk0 : k = 0
      · subst hk0
        have hx := Hx.out rfl
        subst hx
        go_wp2
        go_roundw
        case rel => exact ⟨1, by omega, by go_num, rfl, Hch1.out, Hb1.out⟩
        case measure => simp [intOf]; omega
      · go_wp2
        go_roundw
        case rel => exact ⟨k + 1, by omega, by go_num, by rw [if_neg (Nat.succ_ne_zero k), ← HF.out, if_neg hk0], Hch1.out, Hb1.out⟩
        case measure => simp [intOf]; omega
    · have hkk : k = l.length := by omega
      subst hkk
      have hch := Hch.out
      rw [rot_len] at hch
      have f1 := len_chan hch
      have HCH := Lib.hid hch
      clear hch
      go_wp2
      have e0 : F = hd l := by
        rw [← HF.out]
        by_cases hl0 : l.length = 0
        · rw [if_pos hl0, List.eq_nil_of_length_eq_zero hl0]; rfl
        · rw [if_neg hl0]
      subst e0
      go_ret2
      exact ⟨by simp, HCH.out, ((Kept.refl w).alloc _).but.trans Hb.out fun _ _ h => h⟩

theorem ret_twin (tmps : Array Value) (W : World) (R c : Nat) (h2 : tmps[2]? = some (.pointer (some ⟨R, 0, none⟩))) (hc : W.cell? ⟨R, 0, none⟩ = some (.chan (some c))) :
    (results Try.f32 tmps).run Try.prog W = .ok (.agg #[.chan (some c)]) W := by
  simp [results, Try.f32, go_sem, h2, hc]
theorem but_cell (w : World) (g i : Nat) (v : Value) : But (fun j => j = g) w (w.setCell ⟨g, i, none⟩ v) :=
  ⟨rfl, rfl, rfl, by simp [World.setCell], fun j _ hn => Below.heap_setCell w ⟨g, i, none⟩ v j hn⟩

set_option maxHeartbeats 1000000 in
set_option maxRecDepth 100000 in
theorem rtwin_any (c cap : Nat) (l : List ByteArray) (w : World) (h : Ch w c cap l) (hf : l.length ≤ cap) (hc : cap ≤ 256) :
    Calls Try.prog 32 #[.agg #[.chan (some c)]] w fun e w' => ∃ d, e = .returned (.agg #[.chan (some d)]) ∧ w.heap.size ≤ d ∧ Ch w' d cap l ∧ Ch w' c cap l ∧ But (fun i => i = c) w w' := by
  have k0 : Kept w ((w.alloc (.cells #[.chan (some c)] 54)).alloc (.cells #[.chan none] 54)) := ((Kept.refl w).alloc _).alloc _
  have h0 := h.kept k0
  have f0 := cap_chan h0
  have hlt := h.lt
  have e0 : ((w.alloc (.cells #[.chan (some c)] 54)).alloc (.cells #[.chan none] 54)).heap[w.heap.size]? = some (.cells #[.chan (some c)] 54) :=
    (Below.heap_alloc _ _ _ (by rw [World.size_alloc]; exact Nat.lt_succ_self _)).trans (heap_alloc_new w _)
  have e1 : ((w.alloc (.cells #[.chan (some c)] 54)).alloc (.cells #[.chan none] 54)).heap[w.heap.size + 1]? = some (.cells #[.chan none] 54) := by
    have := heap_alloc_new (w.alloc (.cells #[.chan (some c)] 54)) (.cells #[.chan none] 54)
    rw [World.size_alloc] at this
    exact this
  have s0 : ((w.alloc (.cells #[.chan (some c)] 54)).alloc (.cells #[.chan none] 54)).heap.size = w.heap.size + 2 := by rw [World.size_alloc, World.size_alloc]
  have H0 := Lib.hid h0
  have K0 := Lib.hid k0
  have E0 := Lib.hid e0
  have E1 := Lib.hid e1
  have S0 := Lib.hid s0
  clear h0 k0 e0 e1 s0
  go_enter Try.func32, Try.ntmps32
  go_wp2_with fail
  refine (newRow_any cap hc _).mono ?_
  rintro e w1 ⟨d, rfl, hd, hch, k1⟩
  rw [S0.out] at hd
  have K1 := Lib.hid (K0.out.trans k1)
  have hdl := hch.lt
  have k2 : Kept w1 (w1.alloc (.cells #[.chan (some d)] 54)) := (Kept.refl w1).alloc _
  have g0 : (w1.alloc (.cells #[.chan (some d)] 54)).heap[w.heap.size]? = some (.cells #[.chan (some c)] 54) := (Below.block k2 _ (by have := k1.size; rw [S0.out] at this; omega)).trans ((Below.block k1 _ (by rw [S0.out]; omega)).trans E0.out)
  have g1 : (w1.alloc (.cells #[.chan (some d)] 54)).heap[w.heap.size + 1]? = some (.cells #[.chan none] 54) := (Below.block k2 _ (by have := k1.size; rw [S0.out] at this; omega)).trans ((Below.block k1 _ (by rw [S0.out]; omega)).trans E1.out)
  have g2 : (w1.alloc (.cells #[.chan (some d)] 54)).heap[w1.heap.size]? = some (.cells #[.chan (some d)] 54) := heap_alloc_new w1 _
  have G1 := Lib.hid g1
  have G0 := Lib.hid g0
  have G2 := Lib.hid g2
  have c0 : (w1.alloc (.cells #[.chan (some d)] 54)).cell? ⟨w.heap.size, 0, none⟩ = some (.chan (some c)) := by simp [World.cell?, G0.out]
  have f1 := len_chan (((H0.out.kept k1).kept k2))
  have HC := Lib.hid (((H0.out.kept k1).kept k2))
  have HD := Lib.hid (hch.kept k2)
  have K2 := Lib.hid (K1.out.trans k2)
  have hs2 : w.heap.size + 2 ≤ w1.heap.size := by have := k1.size; rw [S0.out] at this; exact this
  clear f0 K0 H0 E0 E1 S0 k1 k2 hch g0 g1 g2 K1
  go_wp2
  clear f1 c0
  go_loopw [11] (fun iv wr => ∃ k : Nat, k ≤ l.length ∧ iv = .int .i64 k ∧ Ch wr c cap (rot k l) ∧ Ch wr d cap (l.take k) ∧ But (fun i => i = c ∨ i = d) (w1.alloc (.cells #[.chan (some d)] 54)) wr) (fun iv _ => l.length - (intOf iv).toNat)
  case atStart => exact ⟨0, Nat.zero_le _, rfl, by rw [rot_zero]; exact HC.out, HD.out, But.refl _ _⟩
  case round =>
    obtain ⟨k, hk, rfl, hcc, hcd, hb⟩ := hrel
    have Hb := Lib.hid hb
    have Hcc := Lib.hid hcc
    have Hcd := Lib.hid hcd
    have b0 : ∀ w', But (fun i => i = c ∨ i = d) (w1.alloc (.cells #[.chan (some d)] 54)) w' → w'.cell? ⟨w.heap.size, 0, none⟩ = some (.chan (some c)) := fun w' hb => by
      have := hb.at G0.out (by omega)
      simp [World.cell?, this]
    have b2 : ∀ w', But (fun i => i = c ∨ i = d) (w1.alloc (.cells #[.chan (some d)] 54)) w' → w'.cell? ⟨w1.heap.size, 0, none⟩ = some (.chan (some d)) := fun w' hb => by
      have := hb.at G2.out (by omega)
      simp [World.cell?, this]
    have B0 := Lib.hid b0
    have B2 := Lib.hid b2
    clear b0 b2
    have c0 := B0.out wr hb
    have c2 := B2.out wr hb
    clear hb hcc hcd
    by_cases hkl : k < l.length
    · obtain ⟨t, e1, e2, e3⟩ := rot_step hkl
      have e4 : l.take k ++ [l[k]] = l.take (k + 1) := List.take_append_getElem hkl
      generalize l[k] = x at e1 e2 e4
      have ch' := Hcc.out
      rw [e1] at ch'
      have E2 := Lib.hid e2
      have E4 := Lib.hid e4
      have CH := Lib.hid ch'
      clear e1 e2 e4 ch'
      go_wp2_with fail
      have CHd := Lib.hid (CH.out.kept (Kept.drew (Kept.refl wr)))
      have Cdd := Lib.hid (Hcd.out.kept (Kept.drew (Kept.refl wr)))
      have Hbd : Hid (But (fun i => i = c ∨ i = d) (w1.alloc (.cells #[.chan (some d)] 54)) wr.drew) := Hb.out.trans (Kept.drew (Kept.refl wr)).but (fun _ _ h => h)
      go_region_held3 (fun w' => w'.cell? ⟨w.heap.size, 0, none⟩ = some (.chan (some c)) ∧ w'.cell? ⟨w1.heap.size, 0, none⟩ = some (.chan (some d)))
        (first | exact ⟨c0, c2⟩ | exact ⟨B0.out _ bb3, B2.out _ bb3⟩ | exact ⟨B0.out _ bb4, B2.out _ bb4⟩)
        (first
          | (go_at_call 34; refine (next_any c cap t x _ CHd.out (by omega)).mono ?_; rintro e w3 ⟨rfl, ch3, b3⟩; have bb3 := Hbd.out.trans b3 (fun _ _ h => Or.inl h))
          | (go_at_call 28; refine (send_room d cap (l.take k) x _ (Cdd.out.but b3 (by omega)) (by rw [List.length_take]; omega)).mono ?_; rintro e w4 ⟨rfl, ch4, b4⟩; have bb4 := bb3.trans b4 (fun _ _ h => Or.inr h)))
      have Hch3 : Hid (Ch w4 c cap (rot (k + 1) l)) := by rw [← E2.out]; exact ch3.but b4 (by omega)
      have Hch4 : Hid (Ch w4 d cap (l.take (k + 1))) := by rw [← E4.out]; exact ch4
      have Hb4 := Lib.hid bb4
      clear ch3 ch4 b3 b4 bb3 bb4
      go_wp2
      go_roundw
      case rel => exact ⟨k + 1, by omega, by go_num, Hch3.out, Hch4.out, Hb4.out⟩
      case measure => simp [intOf]; omega
    · have hkk : k = l.length := by omega
      subst hkk
      have h1 := Hcc.out
      have h2 := Hcd.out
      rw [rot_len] at h1
      rw [List.take_length] at h2
      have H1 := Lib.hid h1
      have H2 := Lib.hid h2
      clear h1 h2
      have q1 := Hb.out.at G1.out (by omega)
      have r1 : wr.cell? ⟨w.heap.size + 1, 0, none⟩ = some (.chan none) := by simp [World.cell?, q1]
      have r2 : wr.frozen? ⟨w.heap.size + 1, 0, none⟩ = false := by simp [World.frozen?, q1]
      have Q1 := Lib.hid q1
      clear q1
      go_wp2
      have hset : (wr.setCell ⟨w.heap.size + 1, 0, none⟩ (.chan (some d))).cell? ⟨w.heap.size + 1, 0, none⟩ = some (.chan (some d)) := World.cell?_setCell_same _ _ _ r1
      have bs := but_cell wr (w.heap.size + 1) 0 (.chan (some d))
      refine bodyPost_ret (ret_twin _ _ (w.heap.size + 1) d rfl hset) rfl ⟨d, rfl, by omega, H2.out.but bs (by omega), H1.out.but bs (by omega), ?_⟩
      exact (K2.out.but.trans Hb.out (fun i hi h => h.elim id (fun h => by omega))).trans bs (fun i hi h => by omega)
end Go.Proofs.Ytcachpcefeoolaa
