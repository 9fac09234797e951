/-
  What the laws of layer 7 share: a frame that comes in.
-/
import Derived.Test.YtlfmpoinjbmjoaaGreatDoorFget
import Derived.Test.YtlfmpoinjbmjoaaGreatDoorEown
import Derived.Deep.DeepCutAuto
import Derived.Carry
import Derived.Deep.Slices
import Derived.Deep.Fields
import Derived.ChangeSame
namespace Go.Proofs.YtlfmpoinjbmjoaaGreatDoor
open Go.ChangeShapes Go.WideShapes Go.ChangeAt Go.RowKit

def cutS (s : ByteArray) : ByteArray := s.extract 0 (min (s.size : Int) 200).toNat
/-- its texts and its marks cut -/
def cutF (f : Fr.F) : Fr.F := { f with fl := cutS f.fl, e := ⟨f.e.o, f.e.s, cutS f.e.t, cutS f.e.l, f.e.d⟩, ms := f.ms.take 40 }
/-- a frame as it comes in -/
structure FrIn (w : World) (f : Fr.F) (av : Option Addr) (cap : Nat) : Prop where
  k : I64 f.k
  ep : I64 f.ep
  sq : I64 f.sq
  cr : I64 f.cr
  fl : f.fl.size ≤ 9223372036854775807
  o : I64 f.e.o
  s : I64 f.e.s
  t : f.e.t.size ≤ 9223372036854775807
  l : f.e.l.size ≤ 9223372036854775807
  d : I64 f.e.d
  ms : MkS w av cap f.ms
theorem cutS_size (s : ByteArray) : (cutS s).size ≤ 200 := by unfold cutS; rw [ByteArray.size_extract]; omega
theorem frs_cut {w : World} {f : Fr.F} {av av' : Option Addr} {cap cap' : Nat} (h : FrIn w f av cap) {w' : World} (hm : MkS w' av' cap' (f.ms.take 40)) : FrS w' (cutF f) av' cap' :=
  have h1 := cutS_size f.fl
  have h2 := cutS_size f.e.t
  have h3 := cutS_size f.e.l
  ⟨h.k, h.ep, h.sq, h.cr, by show (cutS f.fl).size ≤ 65536; omega, by show (cutS f.e.t).size ≤ 65536; omega, ⟨h.o.1, h.o.2, h.s.1, h.s.2, by show (cutS f.e.t).size ≤ 140737488355328; omega, by show (cutS f.e.l).size ≤ 140737488355328; omega, h.d.1, h.d.2⟩, hm⟩
theorem marks_at {w : World} {ms : List Ev.M} {b off : Nat} (h : ∀ i m, ms[i]? = some m → w.cell? ⟨b, off + i * 2, none⟩ = some (.int .i64 m.o) ∧ w.cell? ⟨b, off + i * 2 + 1, none⟩ = some (.int .i64 m.s)) : ∀ (j : Nat) (u : Value), (ms.flatMap mcells)[j]? = some u → w.cell? ((⟨b, off, none⟩ : Addr).add j) = some u := by
  intro j u hu
  have e := flat2 ms (j / 2) (j % 2) (by omega)
  rw [show j / 2 * 2 + j % 2 = j by omega, hu] at e
  cases hm : ms[j / 2]? with
  | none => rw [hm] at e; cases e
  | some m =>
    rw [hm] at e
    have hc := h (j / 2) m hm
    rcases Nat.mod_two_eq_zero_or_one j with h0 | h1
    · rw [h0] at e
      simp only [Option.bind_some, mcells, List.getElem?_cons_zero] at e
      cases e
      rw [show ((⟨b, off, none⟩ : Addr).add j) = ⟨b, off + j, none⟩ by simp [Addr.add], show off + j = off + j / 2 * 2 by omega]
      exact hc.1
    · rw [h1] at e
      simp only [Option.bind_some, mcells, List.getElem?_cons_succ, List.getElem?_cons_zero] at e
      cases e
      rw [show ((⟨b, off, none⟩ : Addr).add j) = ⟨b, off + j, none⟩ by simp [Addr.add], show off + j = off + j / 2 * 2 + 1 by omega]
      exact hc.2
theorem mcells_one (ms : List Ev.M) : ∀ u ∈ ms.flatMap mcells, u.oneCell' = true := by
  intro u hu
  rw [List.mem_flatMap] at hu
  obtain ⟨m, _, hm⟩ := hu
  simp [mcells] at hm
  rcases hm with rfl | rfl <;> rfl
theorem mcells_len : ∀ ms : List Ev.M, (ms.flatMap mcells).length = ms.length * 2
  | [] => rfl
  | m :: ms => by rw [List.flatMap_cons, List.length_append, mcells_len ms]; simp [mcells]; omega
/-- marks behind an empty row of the call's own -/
theorem append_marks (ty : TypeId) (w : World) (av : Option Addr) (c : Nat) (ms : List Ev.M) (h : MkS w av c ms) (hn : ms.length ≤ 40) :
    ∃ v' w', (Builtin.append_ #[24, 24] ty #[.slice (some ⟨w.heap.size, 0, none⟩) 0 0, .slice av ms.length c]).run Tryz.prog (w.alloc (.cells #[] 63)) = .ok v' w' ∧ (∃ av' cap', v' = .slice av' ms.length cap' ∧ MkS w' av' cap' ms ∧ (ms = [] ∨ ∀ x, av' = some x → w.heap.size ≤ x.block)) ∧ Kept w w' := by
  obtain ⟨i0, hi, hz0, hz1, hz2⟩ := info_parts infoMark
  have hown := own_marks w
  have kx : Kept w (w.alloc (.cells #[] 63)) := (Kept.refl w).alloc _
  have hx := h.kept kx
  cases hav : av with
  | none =>
    subst hav
    have h0 : ms = [] := by
      rcases h.at_ with h0 | ⟨b, off, e, _⟩
      · exact h0
      · cases e
    subst h0
    refine ⟨.slice (some ⟨w.heap.size, 0, none⟩) 0 0, w.alloc (.cells #[] 63), ?_, ⟨some ⟨w.heap.size, 0, none⟩, 0, rfl, ⟨Nat.le_refl _, Nat.zero_le _, by simp, .inl rfl⟩, .inl rfl⟩, kx⟩
    first | kernel_rfl | simp [go_sem]
  | some a =>
    subst hav
    have hat : ∀ j u, (ms.flatMap mcells)[j]? = some u → (w.alloc (.cells #[] 63)).cell? (a.add j) = some u := by
      rcases hx.at_ with h0 | ⟨b, off, e, _, hc⟩
      · intro j u hu; rw [h0] at hu; simp at hu
      · cases e; exact marks_at hc
    obtain ⟨v', w', hr, ho, hg, _⟩ := run_append_own (P := Tryz.prog) (w.alloc (.cells #[] 63)) w.heap.size 24 ty 63 i0 (.agg #[.int .i64 0, .int .i64 0]) 2 16 Tryz.underlying24 hi hz0 hz1 hz2 rfl (by decide) _ 0 [] hown a ms.length c (ms.flatMap mcells) (mcells_len ms) hat (mcells_one ms) (by unfold maxLen; omega) (by omega) (by simp)
    rw [Nat.zero_add, List.nil_append] at ho
    have hO : OwnM w' w.heap.size v' ms := ho
    obtain ⟨av', cap', rfl, hm⟩ := hO.mks h.fit
    have hnew := hO.new
    refine ⟨_, w', hr, ⟨av', cap', rfl, hm, hnew.imp id fun h x hx => h x _ _ (by rw [hx])⟩, ?_⟩
    exact But.after kx (but_row hg) (fun i hi e => by simp [Value.ownBlock] at e; omega)

theorem wpList_marks {ops : Array Oper} {rest : List Oper} {o : Oper} {a : Act} {Q : Exit → Act → World → Prop} (hgd : o.guard = none) (s x : Operand)
    (ho : o.op = .call { callee := .builtin .append, args := #[s, x], argTypes := #[24, 24] }) (W : World) (av : Option Addr) (c q : Nat) (ms : List Ev.M) (hq : ms.length = q) (h : MkS W av c ms) (hn : q ≤ 40)
    (hs : a.eval s = .slice (some ⟨W.heap.size, 0, none⟩) 0 0) (hx : a.eval x = .slice av q c)
    (hc : ∀ av' cap' w', MkS w' av' cap' ms → (ms = [] ∨ ∀ x, av' = some x → W.heap.size ≤ x.block) → Kept W w' → wpList Tryz.prog ops Q rest (a.put o.dst (.slice av' q cap')) w') :
    wpList Tryz.prog ops Q (o :: rest) a (W.alloc (.cells #[] 63)) := by
  subst hq
  obtain ⟨v', w', hr, ⟨av', cap', rfl, hm, hnew⟩, kk⟩ := append_marks o.type W av c ms h hn
  refine wpList_plain hgd fun _ hK => ?_
  unfold Oper.wp execOp
  simp only [ho, resolve, invoke, builtin, Sem.run_bind, Sem.run_pure, Result.andThen_ok, List.map_toArray, List.map_cons, List.map_nil, hs, hx, hr]
  exact hK _ _ (hc av' cap' w' hm hnew kk)

theorem ret_cutf (tmps : Array Value) (W : World) (R : Nat) (f : Fr.F) (av : Option Addr) (cap : Nat) (h2 : tmps[2]?.getD undef = .pointer (some ⟨R, 0, none⟩)) (hb : Blk W R (frc f av cap) 26) :
    (results Tryz.f9 tmps).run Tryz.prog W = .ok (frv f av cap) W := by
  have c0 : W.cell? ⟨R, 0, none⟩ = some (.int .i64 f.k) := cell_of hb 0 rfl
  have c1 : W.cell? ⟨R, 1, none⟩ = some (.int .i64 f.ep) := cell_of hb 1 rfl
  have c2 : W.cell? ⟨R, 2, none⟩ = some (.int .i64 f.sq) := cell_of hb 2 rfl
  have c3 : W.cell? ⟨R, 3, none⟩ = some (.int .i64 f.cr) := cell_of hb 3 rfl
  have c4 : W.cell? ⟨R, 4, none⟩ = some (.bool f.on) := cell_of hb 4 rfl
  have c5 : W.cell? ⟨R, 5, none⟩ = some (.string f.fl) := cell_of hb 5 rfl
  have c6 : W.cell? ⟨R, 6, none⟩ = some (.int .i64 f.e.o) := cell_of hb 6 rfl
  have c7 : W.cell? ⟨R, 7, none⟩ = some (.int .i64 f.e.s) := cell_of hb 7 rfl
  have c8 : W.cell? ⟨R, 8, none⟩ = some (.string f.e.t) := cell_of hb 8 rfl
  have c9 : W.cell? ⟨R, 9, none⟩ = some (.string f.e.l) := cell_of hb 9 rfl
  have c10 : W.cell? ⟨R, 10, none⟩ = some (.int .i64 f.e.d) := cell_of hb 10 rfl
  have c11 : W.cell? ⟨R, 11, none⟩ = some (.slice av f.ms.length cap) := cell_of hb 11 rfl
  simp [results, Tryz.f9, go_sem, h2, frv, frc, c0, c1, c2, c3, c4, c5, c6, c7, c8, c9, c10, c11]
set_option maxHeartbeats 1000000 in
set_option maxRecDepth 100000 in
theorem cutf_any (f : Fr.F) (av : Option Addr) (cap : Nat) (w : World) (h : FrIn w f av cap) :
    Calls Tryz.prog 9 #[frv f av cap] w fun r w' => (∃ av' cap', r = .returned (frv (cutF f) av' cap') ∧ FrS w' (cutF f) av' cap' ∧ ((cutF f).ms = [] ∨ ∀ x, av' = some x → w.heap.size ≤ x.block)) ∧ Kept w w' := by
  have HI := Lib.hid h
  have hfl := h.fl
  have het := h.t
  have hel := h.l
  have hcap1 := h.ms.cap1
  have hcap2 := h.ms.cap2
  clear h
  obtain ⟨n, hn⟩ : ∃ n, n = f.ms.length := ⟨_, rfl⟩
  have Hn := Lib.hid hn
  have HQQ : Hid (frv f av cap = frv f av cap) := rfl
  rw [show frv f av cap = .agg #[.int .i64 f.k, .int .i64 f.ep, .int .i64 f.sq, .int .i64 f.cr, .bool f.on, .string f.fl, .int .i64 f.e.o, .int .i64 f.e.s, .string f.e.t, .string f.e.l, .int .i64 f.e.d, .slice av n cap] by rw [hn]; rfl]
  rw [← hn] at hcap1
  clear hn
  have hmin : (min (n : Int) 40) = ((min n 40 : Nat) : Int) := by omega
  have hmc : min n 40 ≤ cap := by omega
  obtain ⟨q, hq⟩ : ∃ q, q = min n 40 := ⟨_, rfl⟩
  rw [← hq] at hmin hmc
  have hq40 : q ≤ 40 := by omega
  have HQ : Hid ((f.ms.take 40).length = q) := by show _ = _; rw [List.length_take, hq, Hn.out]; omega
  clear hq
  have kw2 : Kept w ((w.alloc (.cells #[.int .i64 f.k, .int .i64 f.ep, .int .i64 f.sq, .int .i64 f.cr, .bool f.on, .string (f.fl.extract 0 (min (f.fl.size : Int) 200).toNat), .int .i64 f.e.o, .int .i64 f.e.s, .string (f.e.t.extract 0 (min (f.e.t.size : Int) 200).toNat), .string (f.e.l.extract 0 (min (f.e.l.size : Int) 200).toNat), .int .i64 f.e.d, .slice av n cap] 26)).alloc (.cells #[.int .i64 0, .int .i64 0, .int .i64 0, .int .i64 0, .bool false, .string ⟨#[]⟩, .int .i64 0, .int .i64 0, .string ⟨#[]⟩, .string ⟨#[]⟩, .int .i64 0, .slice none 0 0] 26)) := ((Kept.refl w).alloc _).alloc _
  have bf := (Blk.made w #[.int .i64 f.k, .int .i64 f.ep, .int .i64 f.sq, .int .i64 f.cr, .bool f.on, .string (f.fl.extract 0 (min (f.fl.size : Int) 200).toNat), .int .i64 f.e.o, .int .i64 f.e.s, .string (f.e.t.extract 0 (min (f.e.t.size : Int) 200).toNat), .string (f.e.l.extract 0 (min (f.e.l.size : Int) 200).toNat), .int .i64 f.e.d, .slice av n cap] 26).alloc (.cells #[.int .i64 0, .int .i64 0, .int .i64 0, .int .i64 0, .bool false, .string ⟨#[]⟩, .int .i64 0, .int .i64 0, .string ⟨#[]⟩, .string ⟨#[]⟩, .int .i64 0, .slice none 0 0] 26)
  have bz := Blk.made (w.alloc (.cells #[.int .i64 f.k, .int .i64 f.ep, .int .i64 f.sq, .int .i64 f.cr, .bool f.on, .string (f.fl.extract 0 (min (f.fl.size : Int) 200).toNat), .int .i64 f.e.o, .int .i64 f.e.s, .string (f.e.t.extract 0 (min (f.e.t.size : Int) 200).toNat), .string (f.e.l.extract 0 (min (f.e.l.size : Int) 200).toNat), .int .i64 f.e.d, .slice av n cap] 26)) #[.int .i64 0, .int .i64 0, .int .i64 0, .int .i64 0, .bool false, .string ⟨#[]⟩, .int .i64 0, .int .i64 0, .string ⟨#[]⟩, .string ⟨#[]⟩, .int .i64 0, .slice none 0 0] 26
  have hms := ((HI.out.ms).take 40).kept kw2
  obtain ⟨W2, hW2⟩ : ∃ W2, W2 = (w.alloc (.cells #[.int .i64 f.k, .int .i64 f.ep, .int .i64 f.sq, .int .i64 f.cr, .bool f.on, .string (f.fl.extract 0 (min (f.fl.size : Int) 200).toNat), .int .i64 f.e.o, .int .i64 f.e.s, .string (f.e.t.extract 0 (min (f.e.t.size : Int) 200).toNat), .string (f.e.l.extract 0 (min (f.e.l.size : Int) 200).toNat), .int .i64 f.e.d, .slice av n cap] 26)).alloc (.cells #[.int .i64 0, .int .i64 0, .int .i64 0, .int .i64 0, .bool false, .string ⟨#[]⟩, .int .i64 0, .int .i64 0, .string ⟨#[]⟩, .string ⟨#[]⟩, .int .i64 0, .slice none 0 0] 26) := ⟨_, rfl⟩
  have hs2 : W2.heap.size = w.heap.size + 1 + 1 := by rw [hW2]; simp only [World.size_alloc]
  rw [World.size_alloc, ← hW2] at bz
  rw [← hW2] at kw2 bf hms
  have d11 : W2.cell? ⟨w.heap.size, 11, none⟩ = some (.slice av n cap) := cell_of bf 11 rfl
  have BF := Lib.hid bf
  have BZ := Lib.hid bz
  have KW2 := Lib.hid kw2
  have HMS := Lib.hid hms
  clear bf bz kw2 hms
  go_enter Tryz.func9, Tryz.ntmps9
  go_upto_region 4 with fail
  rw [← hW2]
  have hltW : w.heap.size < W2.heap.size := by omega
  have HS2 := Lib.hid hs2
  clear hW2 hs2 hfl het hel
  go_wp2_with (first
    | (at_builtin; refine wpList_marks rfl _ _ rfl W2 av cap q (f.ms.take 40) HQ.out HMS.out hq40 rfl rfl ?_))
  intro av' cap' w' hm hnew kk
  have b1 := BF.out.kept kk
  have b2 := BZ.out.kept kk
  have c11 : w'.cell? ⟨w.heap.size, 11, none⟩ = some (.slice av n cap) := cell_of b1 11 rfl
  have f11 := b1.frozen 11
  have bx1 : Blk (w'.setCell ⟨w.heap.size, 11, none⟩ (.slice av' q cap')) w.heap.size #[.int .i64 f.k, .int .i64 f.ep, .int .i64 f.sq, .int .i64 f.cr, .bool f.on, .string (f.fl.extract 0 (min (f.fl.size : Int) 200).toNat), .int .i64 f.e.o, .int .i64 f.e.s, .string (f.e.t.extract 0 (min (f.e.t.size : Int) 200).toNat), .string (f.e.l.extract 0 (min (f.e.l.size : Int) 200).toNat), .int .i64 f.e.d, .slice av' q cap'] 26 := b1.set 11 _
  have bx2 : Blk (w'.setCell ⟨w.heap.size, 11, none⟩ (.slice av' q cap')) (w.heap.size + 1) zcs 26 := b2.far ⟨w.heap.size, 11, none⟩ _ (by show w.heap.size + 1 ≠ w.heap.size; omega)
  rw [HS2.out] at hnew
  have hlow : f.ms.take 40 = [] ∨ ∀ x, av' = some x → x.block ≠ w.heap.size + 1 := hnew.imp (fun h => by rw [h]; rfl) fun h x hx => by have := h x hx; omega
  have hlow0 : f.ms.take 40 = [] ∨ ∀ x, av' = some x → x.block ≠ w.heap.size := hnew.imp (fun h => by rw [h]; rfl) fun h x hx => by have := h x hx; omega
  have HNEW : Hid ((cutF f).ms = [] ∨ ∀ x, av' = some x → w.heap.size ≤ x.block) := hnew.imp (fun h => by show f.ms.take 40 = []; rw [h]; rfl) fun h x hx => by have := h x hx; omega
  have hms2 := mks_set hm hlow0 11 (.slice av' q cap')
  have hk2 : Kept w (w'.setCell ⟨w.heap.size, 11, none⟩ (.slice av' q cap')) := Below.setCell (KW2.out.trans kk) (p := ⟨w.heap.size, 11, none⟩) (Nat.le_refl _) (.slice av' q cap')
  have BX1 := Lib.hid bx1
  have BX2 := Lib.hid bx2
  have HM2 := Lib.hid hms2
  have HK2 := Lib.hid hk2
  have HLOW := Lib.hid hlow
  clear bx1 bx2 hms2 hk2 hlow hlow0 hnew hm kk b1 b2 d11 hltW
  go_upto_region 5 with fail
  clear c11 f11
  generalize w'.setCell ⟨w.heap.size, 11, none⟩ (.slice av' q cap') = w2 at BX1 BX2 HM2 HK2 ⊢
  have B7 := Lib.hid (fr_sets BX2.out (cutF f) av' cap')
  have F7 := Lib.hid (frs_sets (R := w.heap.size + 1) (frs_cut HI.out HM2.out) HLOW.out (.int .i64 f.k) (.int .i64 f.ep) (.int .i64 f.sq) (.int .i64 f.cr) (.bool f.on) (.string (cutS f.fl)) (.int .i64 f.e.o) (.int .i64 f.e.s) (.string (cutS f.e.t)) (.string (cutS f.e.l)) (.int .i64 f.e.d) (.slice av' q cap'))
  have K7 := Lib.hid (fr_sets_kept (R := w.heap.size + 1) HK2.out (by omega) (.int .i64 f.k) (.int .i64 f.ep) (.int .i64 f.sq) (.int .i64 f.cr) (.bool f.on) (.string (cutS f.fl)) (.int .i64 f.e.o) (.int .i64 f.e.s) (.string (cutS f.e.t)) (.string (cutS f.e.l)) (.int .i64 f.e.d) (.slice av' q cap'))
  rw [show (cutF f).ms.length = q from HQ.out] at B7
  obtain ⟨s1, h1⟩ : ∃ s1, s1 = f.fl.extract 0 (min (f.fl.size : Int) 200).toNat := ⟨_, rfl⟩
  obtain ⟨s2, h2⟩ : ∃ s2, s2 = f.e.t.extract 0 (min (f.e.t.size : Int) 200).toNat := ⟨_, rfl⟩
  obtain ⟨s3, h3⟩ : ∃ s3, s3 = f.e.l.extract 0 (min (f.e.l.size : Int) 200).toNat := ⟨_, rfl⟩
  have e1 : cutS f.fl = s1 := h1.symm
  have e2 : cutS f.e.t = s2 := h2.symm
  have e3 : cutS f.e.l = s3 := h3.symm
  rw [e1, e2, e3] at F7 K7
  rw [show (cutF f).fl = s1 from e1, show (cutF f).e = ⟨f.e.o, f.e.s, s2, s3, f.e.d⟩ by rw [← e2, ← e3]; rfl] at B7
  rw [← h1, ← h2, ← h3] at BX1 ⊢
  have bx1 := BX1.out
  have bx2 := BX2.out
  have c0 : w2.cell? ⟨w.heap.size, 0, none⟩ = some (.int .i64 f.k) := cell_of bx1 0 rfl
  have c1 : w2.cell? ⟨w.heap.size, 1, none⟩ = some (.int .i64 f.ep) := cell_of bx1 1 rfl
  have c2 : w2.cell? ⟨w.heap.size, 2, none⟩ = some (.int .i64 f.sq) := cell_of bx1 2 rfl
  have c3 : w2.cell? ⟨w.heap.size, 3, none⟩ = some (.int .i64 f.cr) := cell_of bx1 3 rfl
  have c4 : w2.cell? ⟨w.heap.size, 4, none⟩ = some (.bool f.on) := cell_of bx1 4 rfl
  have c5 : w2.cell? ⟨w.heap.size, 5, none⟩ = some (.string s1) := cell_of bx1 5 rfl
  have c6 : w2.cell? ⟨w.heap.size, 6, none⟩ = some (.int .i64 f.e.o) := cell_of bx1 6 rfl
  have c7 : w2.cell? ⟨w.heap.size, 7, none⟩ = some (.int .i64 f.e.s) := cell_of bx1 7 rfl
  have c8 : w2.cell? ⟨w.heap.size, 8, none⟩ = some (.string s2) := cell_of bx1 8 rfl
  have c9 : w2.cell? ⟨w.heap.size, 9, none⟩ = some (.string s3) := cell_of bx1 9 rfl
  have c10 : w2.cell? ⟨w.heap.size, 10, none⟩ = some (.int .i64 f.e.d) := cell_of bx1 10 rfl
  have c11 : w2.cell? ⟨w.heap.size, 11, none⟩ = some (.slice av' q cap') := cell_of bx1 11 rfl
  have zc0 : w2.cell? ⟨w.heap.size + 1, 0, none⟩ = some (.int .i64 0) := cell_of bx2 0 rfl
  have zf0 := bx2.frozen 0
  have zc1 : w2.cell? ⟨w.heap.size + 1, 1, none⟩ = some (.int .i64 0) := cell_of bx2 1 rfl
  have zf1 := bx2.frozen 1
  have zc2 : w2.cell? ⟨w.heap.size + 1, 2, none⟩ = some (.int .i64 0) := cell_of bx2 2 rfl
  have zf2 := bx2.frozen 2
  have zc3 : w2.cell? ⟨w.heap.size + 1, 3, none⟩ = some (.int .i64 0) := cell_of bx2 3 rfl
  have zf3 := bx2.frozen 3
  have zc4 : w2.cell? ⟨w.heap.size + 1, 4, none⟩ = some (.bool false) := cell_of bx2 4 rfl
  have zf4 := bx2.frozen 4
  have zc5 : w2.cell? ⟨w.heap.size + 1, 5, none⟩ = some (.string ⟨#[]⟩) := cell_of bx2 5 rfl
  have zf5 := bx2.frozen 5
  have zc6 : w2.cell? ⟨w.heap.size + 1, 6, none⟩ = some (.int .i64 0) := cell_of bx2 6 rfl
  have zf6 := bx2.frozen 6
  have zc7 : w2.cell? ⟨w.heap.size + 1, 7, none⟩ = some (.int .i64 0) := cell_of bx2 7 rfl
  have zf7 := bx2.frozen 7
  have zc8 : w2.cell? ⟨w.heap.size + 1, 8, none⟩ = some (.string ⟨#[]⟩) := cell_of bx2 8 rfl
  have zf8 := bx2.frozen 8
  have zc9 : w2.cell? ⟨w.heap.size + 1, 9, none⟩ = some (.string ⟨#[]⟩) := cell_of bx2 9 rfl
  have zf9 := bx2.frozen 9
  have zc10 : w2.cell? ⟨w.heap.size + 1, 10, none⟩ = some (.int .i64 0) := cell_of bx2 10 rfl
  have zf10 := bx2.frozen 10
  have zc11 : w2.cell? ⟨w.heap.size + 1, 11, none⟩ = some (.slice none 0 0) := cell_of bx2 11 rfl
  have zf11 := bx2.frozen 11
  have HF7 := Lib.hid F7.out
  clear h1 h2 h3 e1 e2 e3 bx1 bx2 BX1 BX2 hmin hmc hq40 hcap1 hcap2 HM2 HK2 HLOW
  go_wp2
  exact bodyPost_ret (ret_cutf _ _ (w.heap.size + 1) (cutF f) av' cap' rfl B7.out) rfl ⟨⟨av', cap', rfl, F7.out, HNEW.out⟩, K7.out⟩
end Go.Proofs.YtlfmpoinjbmjoaaGreatDoor

namespace Go.Proofs.YtlfmpoinjbmjoaaGreatDoor
open Go.ChangeShapes Go.WideShapes Go.ChangeAt Go.RowKit

theorem laidOut : laidOutB Tryz.prog = true := by kernel_rfl
theorem int_bounds {x : Int} (h : (Lit.int .i64 x).wf = true) : -9223372036854775808 ≤ x ∧ x ≤ 9223372036854775807 := bounds_i64 h

section
variable {H : Type} {enc : TypeId × Value → H} {W : World} {base : Nat}

set_option maxRecDepth 100000 in
theorem marks_of {c : Value} {fuel : Nat} {y : DataW H × List MemPlace} (hf : DataW.trod enc Tryz.prog W 0 (fun _ => true) true fuel 24 [c] = some y) : ∃ av cap ms, c = .slice av ms.length cap ∧ MkS W av cap ms := by
  have hC : Tryz.prog.cellsOf 63 = 2 := by kernel_rfl
  rcases Deep.open_slice Tryz.underlying24 hf with ⟨hcs, hx⟩ | ⟨a, len, cap, m, n, D, Pl, hcs, _, hl, hm, hmm, _, hi⟩
  · cases hcs
    exact ⟨none, 0, [], rfl, MkS.nil W⟩
  · cases hcs
    have hlm : len ≤ m := by rw [hmm]; split <;> omega
    have hO : ∀ i, i < m → ∃ o : Ev.M, mfit o ∧ W.cell? (a.add (i * 2 + 0)) = some (.int .i64 o.o) ∧ W.cell? (a.add (i * 2 + 1)) = some (.int .i64 o.s) := by
      intro i him
      obtain ⟨cs, hc, ht⟩ := hi i him
      rw [hC] at hc
      obtain ⟨_, hcl, hat⟩ := World.cells?_some hc
      obtain ⟨ys, n', _, _, _, hyl, hfl⟩ := DataW.trod_struct Tryz.underlying63 ht
      match cs, hcl with
      | [d0, d1], _ =>
        have e0 : ∃ y, DataW.trod enc Tryz.prog W 0 (fun _ => true) true n' 3 [d0] = some y := ⟨_, (hfl 0 _ rfl).trans (List.getElem?_eq_getElem (by rw [hyl]; decide))⟩
        have e1 : ∃ y, DataW.trod enc Tryz.prog W 0 (fun _ => true) true n' 3 [d1] = some y := ⟨_, (hfl 1 _ rfl).trans (List.getElem?_eq_getElem (by rw [hyl]; decide))⟩
        obtain ⟨_, e0⟩ := e0
        obtain ⟨_, e1⟩ := e1
        obtain ⟨x0, q0, _, w0⟩ := DataW.trod_int Tryz.underlying3 e0
        obtain ⟨x1, q1, _, w1⟩ := DataW.trod_int Tryz.underlying3 e1
        cases q0; cases q1
        have h0 := hat 0 (by omega)
        have h1 := hat 1 (by omega)
        rw [Go.Deep.add_add] at h0 h1
        exact ⟨⟨x0, x1⟩, ⟨int_bounds w0, int_bounds w1⟩, h0, h1⟩
    have hz' : ∃ z : Nat → Ev.M, ∀ i, i < m → mfit (z i) ∧ W.cell? (a.add (i * 2 + 0)) = some (.int .i64 (z i).o) ∧ W.cell? (a.add (i * 2 + 1)) = some (.int .i64 (z i).s) := by
      refine ⟨fun i => if hi : i < m then (hO i hi).choose else ⟨0, 0⟩, fun i hi => ?_⟩
      simp only [dif_pos hi]
      exact (hO i hi).choose_spec
    obtain ⟨z, hz⟩ := hz'
    have hlen : ((List.range len).map z).length = len := by simp
    refine ⟨_, cap, (List.range len).map z, by rw [hlen], by rw [hlen]; exact hl, by unfold maxLen at hm; exact hm, fun x hx => ?_, ?_⟩
    · simp only [List.mem_map, List.mem_range] at hx
      obtain ⟨i, hi, rfl⟩ := hx
      exact (hz i (by omega)).1
    · by_cases h0 : len = 0
      · left; subst h0; rfl
      · right
        obtain ⟨b, off, spot⟩ := a
        have hspot : spot = none := by simpa [Addr.add] using World.cell?_spot (hz 0 (by omega)).2.1
        subst hspot
        have hc : ∀ i, i < m → W.cell? ⟨b, off + i * 2, none⟩ = some (.int .i64 (z i).o) ∧ W.cell? ⟨b, off + i * 2 + 1, none⟩ = some (.int .i64 (z i).s) := fun i hi => by
          have h1 := (hz i hi).2
          rw [Go.WideShapes.add_plain, Go.WideShapes.add_plain] at h1
          refine ⟨?_, ?_⟩
          · rw [← h1.1, Nat.add_zero]
          · rw [← h1.2, Nat.add_assoc]
        refine ⟨b, off, rfl, World.block_lt_of_cell? W _ (hc 0 (by omega)).1, fun i x hx => ?_⟩
        rw [List.getElem?_map, Option.map_eq_some_iff] at hx
        obtain ⟨j, hj, rfl⟩ := hx
        have hji : j = i ∧ i < len := by
          rw [List.getElem?_eq_some_iff] at hj
          obtain ⟨h1, h2⟩ := hj
          simp at h1 h2
          exact ⟨h2.symm, h1⟩
        obtain ⟨rfl, hil⟩ := hji
        exact hc j (by omega)

set_option maxRecDepth 100000 in
theorem open_frame {v : Value} {d : DataW H} {ps : List MemPlace} (hv : Value.okWide Tryz.prog W .any base 26 v)
    (h : DataW.Trod enc Tryz.prog W 0 (fun _ => true) true 26 v d ps) : ∃ (f : Fr.F) (av : Option Addr) (cap : Nat), v = frv f av cap ∧ FrIn W f av cap := by
  obtain ⟨cs, rfl, hsz⟩ := okWide_struct Tryz.underlying26 hv
  have hC : Tryz.prog.cellsOf 26 = 12 := by kernel_rfl
  obtain ⟨l⟩ := cs
  obtain ⟨fuel, hf⟩ := h
  match l, hsz.trans hC with
  | [c0, c1, c2, c3, c4, c5, c6, c7, c8, c9, c10, c11], _ =>
    obtain ⟨ys, n', _, _, _, hyl, hfl⟩ := DataW.trod_struct Tryz.underlying26 hf
    have e0 : ∃ y, DataW.trod enc Tryz.prog W 0 (fun _ => true) true n' 3 [c0] = some y := ⟨_, (hfl 0 _ rfl).trans (List.getElem?_eq_getElem (by rw [hyl]; decide))⟩
    have e1 : ∃ y, DataW.trod enc Tryz.prog W 0 (fun _ => true) true n' 3 [c1] = some y := ⟨_, (hfl 1 _ rfl).trans (List.getElem?_eq_getElem (by rw [hyl]; decide))⟩
    have e2 : ∃ y, DataW.trod enc Tryz.prog W 0 (fun _ => true) true n' 3 [c2] = some y := ⟨_, (hfl 2 _ rfl).trans (List.getElem?_eq_getElem (by rw [hyl]; decide))⟩
    have e3 : ∃ y, DataW.trod enc Tryz.prog W 0 (fun _ => true) true n' 3 [c3] = some y := ⟨_, (hfl 3 _ rfl).trans (List.getElem?_eq_getElem (by rw [hyl]; decide))⟩
    have e4 : ∃ y, DataW.trod enc Tryz.prog W 0 (fun _ => true) true n' 4 [c4] = some y := ⟨_, (hfl 4 _ rfl).trans (List.getElem?_eq_getElem (by rw [hyl]; decide))⟩
    have e5 : ∃ y, DataW.trod enc Tryz.prog W 0 (fun _ => true) true n' 9 [c5] = some y := ⟨_, (hfl 5 _ rfl).trans (List.getElem?_eq_getElem (by rw [hyl]; decide))⟩
    have e6 : ∃ y, DataW.trod enc Tryz.prog W 0 (fun _ => true) true n' 23 [c6, c7, c8, c9, c10] = some y := ⟨_, (hfl 6 _ rfl).trans (List.getElem?_eq_getElem (by rw [hyl]; decide))⟩
    have e7 : ∃ y, DataW.trod enc Tryz.prog W 0 (fun _ => true) true n' 24 [c11] = some y := ⟨_, (hfl 7 _ rfl).trans (List.getElem?_eq_getElem (by rw [hyl]; decide))⟩
    obtain ⟨_, e0⟩ := e0
    obtain ⟨_, e1⟩ := e1
    obtain ⟨_, e2⟩ := e2
    obtain ⟨_, e3⟩ := e3
    obtain ⟨_, e4⟩ := e4
    obtain ⟨_, e5⟩ := e5
    obtain ⟨_, e6⟩ := e6
    obtain ⟨_, e7⟩ := e7
    obtain ⟨x0, q0, _, w0⟩ := DataW.trod_int Tryz.underlying3 e0
    obtain ⟨x1, q1, _, w1⟩ := DataW.trod_int Tryz.underlying3 e1
    obtain ⟨x2, q2, _, w2⟩ := DataW.trod_int Tryz.underlying3 e2
    obtain ⟨x3, q3, _, w3⟩ := DataW.trod_int Tryz.underlying3 e3
    obtain ⟨x4, q4, _⟩ := DataW.trod_bool Tryz.underlying4 e4
    obtain ⟨x5, q5, _, w5⟩ := DataW.trod_string Tryz.underlying9 e5
    obtain ⟨zs, n2, _, _, _, hzl, hgl⟩ := DataW.trod_struct Tryz.underlying23 e6
    have g0 : ∃ y, DataW.trod enc Tryz.prog W 0 (fun _ => true) true n2 3 [c6] = some y := ⟨_, (hgl 0 _ rfl).trans (List.getElem?_eq_getElem (by rw [hzl]; decide))⟩
    have g1 : ∃ y, DataW.trod enc Tryz.prog W 0 (fun _ => true) true n2 3 [c7] = some y := ⟨_, (hgl 1 _ rfl).trans (List.getElem?_eq_getElem (by rw [hzl]; decide))⟩
    have g2 : ∃ y, DataW.trod enc Tryz.prog W 0 (fun _ => true) true n2 9 [c8] = some y := ⟨_, (hgl 2 _ rfl).trans (List.getElem?_eq_getElem (by rw [hzl]; decide))⟩
    have g3 : ∃ y, DataW.trod enc Tryz.prog W 0 (fun _ => true) true n2 9 [c9] = some y := ⟨_, (hgl 3 _ rfl).trans (List.getElem?_eq_getElem (by rw [hzl]; decide))⟩
    have g4 : ∃ y, DataW.trod enc Tryz.prog W 0 (fun _ => true) true n2 3 [c10] = some y := ⟨_, (hgl 4 _ rfl).trans (List.getElem?_eq_getElem (by rw [hzl]; decide))⟩
    obtain ⟨_, g0⟩ := g0
    obtain ⟨_, g1⟩ := g1
    obtain ⟨_, g2⟩ := g2
    obtain ⟨_, g3⟩ := g3
    obtain ⟨_, g4⟩ := g4
    obtain ⟨x6, q6, _, w6⟩ := DataW.trod_int Tryz.underlying3 g0
    obtain ⟨x7, q7, _, w7⟩ := DataW.trod_int Tryz.underlying3 g1
    obtain ⟨x8, q8, _, w8⟩ := DataW.trod_string Tryz.underlying9 g2
    obtain ⟨x9, q9, _, w9⟩ := DataW.trod_string Tryz.underlying9 g3
    obtain ⟨x10, q10, _, w10⟩ := DataW.trod_int Tryz.underlying3 g4
    obtain ⟨av, cap, ms, rfl, hm⟩ := marks_of e7
    cases q0; cases q1; cases q2; cases q3; cases q4; cases q5; cases q6; cases q7; cases q8; cases q9; cases q10
    unfold maxLen at w5 w8 w9
    exact ⟨⟨x0, x1, x2, x3, x4, x5, ⟨x6, x7, x8, x9, x10⟩, ms⟩, av, cap, rfl, ⟨int_bounds w0, int_bounds w1, int_bounds w2, int_bounds w3, w5, int_bounds w6, int_bounds w7, w8, w9, int_bounds w10, hm⟩⟩
end
end Go.Proofs.YtlfmpoinjbmjoaaGreatDoor
