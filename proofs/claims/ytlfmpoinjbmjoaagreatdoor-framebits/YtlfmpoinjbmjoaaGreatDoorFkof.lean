/-
  The walks of kindOf, Right and Put.
-/
import Derived.Test.YtlfmpoinjbmjoaaGreatDoorFallow
import Derived.Test.YtlfmpoinjbmjoaaGreatDoorKseal
namespace Go.Proofs.YtlfmpoinjbmjoaaGreatDoor
open Go.ChangeShapes Go.WideShapes Go.ChangeAt Go.RowKit

/-- the blocks that the region reads and writes: the kind, the frame, the answer -/
def KS2 (R g b pn : Nat) (kn : ByteArray) (f : Fr.F) (av : Option Addr) (cap : Nat) (w : World) : Prop :=
  Blk w g #[.string kn, .slice (some ⟨b, 0, none⟩) pn pn] 44 ∧ Blk w R (frc f av cap) 26 ∧ ∃ u v, Blk w (R + 1) #[u, v] 44 ∧ g ≠ R + 1
theorem KS2.kept {R g b pn : Nat} {kn : ByteArray} {f : Fr.F} {av : Option Addr} {cap : Nat} {w w' : World} (h : KS2 R g b pn kn f av cap w) (k : Kept w w') : KS2 R g b pn kn f av cap w' :=
  let ⟨h1, h2, u, v, h3, h4⟩ := h
  ⟨h1.kept k, h2.kept k, u, v, h3.kept k, h4⟩
/-- the world with the answer's kind laid -/
def laidKind (R b pn : Nat) (kn : ByteArray) (w : World) : World := (w.setCell ⟨R + 1, 0, none⟩ (.string kn)).setCell ⟨R + 1, 1, none⟩ (.slice (some ⟨b, 0, none⟩) pn pn)
theorem KS2.st {R g b pn : Nat} {kn : ByteArray} {f : Fr.F} {av : Option Addr} {cap : Nat} {w : World} (h : KS2 R g b pn kn f av cap w) : KS2 R g b pn kn f av cap (laidKind R b pn kn w) := by
  obtain ⟨h1, h2, u, v, h3, h4⟩ := h
  exact ⟨(h1.far ⟨R + 1, 0, none⟩ _ h4).far ⟨R + 1, 1, none⟩ _ h4, (h2.far ⟨R + 1, 0, none⟩ _ (by show R ≠ R + 1; omega)).far ⟨R + 1, 1, none⟩ _ (by show R ≠ R + 1; omega), .string kn, .slice (some ⟨b, 0, none⟩) pn pn, (h3.set 0 (.string kn)).set 1 (.slice (some ⟨b, 0, none⟩) pn pn), h4⟩
section
variable {a : Act} {dst : Option Tmp} {ty : TypeId} {pos : String} {after : Array Edge} {guard : Option (Nat × Bool)}
theorem rk_ldk {n g : Nat} {s : ByteArray} {p : Option Addr} {l c : Nat} (h : At a n (.pointer (some ⟨g, 0, none⟩))) (w : World) (hb : Blk w g #[.string s, .slice p l c] 44) : (execOp a.eval ⟨dst, .load 44 (.tmp n), ty, pos, after, guard⟩).run Tryz.prog w = .ok (.value (.agg #[.string s, .slice p l c])) w := by
  have e1 := h.eval
  have c0 := cell_of hb 0 rfl
  have c1 := cell_of hb 1 rfl
  generalize a.eval = ρ at *
  simp [go_sem, e1, c0, c1]
theorem rk_ldf {n g : Nat} {f : Fr.F} {av : Option Addr} {cap : Nat} (h : At a n (.pointer (some ⟨g, 0, none⟩))) (w : World) (hb : Blk w g (frc f av cap) 26) : (execOp a.eval ⟨dst, .load 26 (.tmp n), ty, pos, after, guard⟩).run Tryz.prog w = .ok (.value (frv f av cap)) w := by
  have e1 := h.eval
  unfold frv
  unfold frc at hb ⊢
  have c0 := cell_of hb 0 rfl
  have c1 := cell_of hb 1 rfl
  have c2 := cell_of hb 2 rfl
  have c3 := cell_of hb 3 rfl
  have c4 := cell_of hb 4 rfl
  have c5 := cell_of hb 5 rfl
  have c6 := cell_of hb 6 rfl
  have c7 := cell_of hb 7 rfl
  have c8 := cell_of hb 8 rfl
  have c9 := cell_of hb 9 rfl
  have c10 := cell_of hb 10 rfl
  have c11 := cell_of hb 11 rfl
  generalize a.eval = ρ at *
  simp [go_sem, e1, c0, c1, c2, c3, c4, c5, c6, c7, c8, c9, c10, c11]
theorem rk_call2 {n m : Nat} {x y : Value} (h : At a n x) (h' : At a m y) (w : World) : (execOp a.eval ⟨dst, .call { callee := .value (.func 48), args := #[.tmp n, .tmp m], argTypes := #[44, 26] }, ty, pos, after, guard⟩).run Tryz.prog w = .ok (.enter 48 #[x, y]) w := by
  have e1 := h.eval
  have e2 := h'.eval
  have e3 : a.eval (.func 48) = .func (.func 48) #[] #[] := rfl
  generalize a.eval = ρ at *
  simp [go_sem, e1, e2, e3]
theorem rk_pick {n m : Nat} {v u : Value} (h : At a n (.bool true)) (h' : At a m v) (w : World) : (execOp a.eval ⟨dst, .pick (.tmp n) (.tmp m) (.const u), ty, pos, after, guard⟩).run Tryz.prog w = .ok (.value v) w := by
  have e1 := h.eval
  have e2 := h'.eval
  generalize a.eval = ρ at *
  simp [go_sem, e1, e2]
theorem rk_stk {n m R b pn : Nat} {kn : ByteArray} (h : At a n (.pointer (some ⟨R + 1, 0, none⟩))) (h' : At a m (.agg #[.string kn, .slice (some ⟨b, 0, none⟩) pn pn])) (w : World) {P : Prop} (hb : ∃ u v, Blk w (R + 1) #[u, v] 44 ∧ P) : (execOp a.eval ⟨dst, .store 44 (.tmp n) (.tmp m), ty, pos, after, guard⟩).run Tryz.prog w = .ok .skip (laidKind R b pn kn w) := by
  obtain ⟨u, v, hb, _⟩ := hb
  have e1 := h.eval
  have e2 := h'.eval
  have c0 := cell_of hb 0 rfl
  have c1 := cell_of hb 1 rfl
  have f0 := hb.frozen 0
  have f1 := hb.frozen 1
  unfold laidKind
  generalize a.eval = ρ at *
  simp [go_sem, e1, e2, c0, c1, f0, f1]
end
def litK : Array Oper := #[⟨some 13, Op.load 44 (Operand.tmp 4), 44, "frame.go:205", #[], none⟩,
  ⟨some 14, Op.move (Operand.tmp 5), 4, "frame.go:205", #[], none⟩,
  ⟨some 15, Op.move (Operand.tmp 14), 4, "frame.go:205", #[⟨1, Ground.data⟩], none⟩,
  ⟨some 16, Op.load 44 (Operand.tmp 4), 44, "frame.go:205", #[⟨2, Ground.guard⟩], some (2, true)⟩,
  ⟨some 17, Op.load 26 (Operand.tmp 1), 26, "frame.go:205", #[⟨2, Ground.guard⟩], some (2, true)⟩,
  ⟨some 18, Op.call { callee := Callee.value (Operand.func 48), args := #[Operand.tmp 16, Operand.tmp 17], argTypes := #[44, 26] }, 4, "frame.go:205", #[⟨3, Ground.data⟩, ⟨4, Ground.data⟩, ⟨2, Ground.chain⟩, ⟨2, Ground.guard⟩], some (2, true)⟩,
  ⟨some 19, Op.pick (Operand.tmp 15) (Operand.tmp 18) (Operand.const (Value.bool false)), 4, "frame.go:205", #[⟨2, Ground.data⟩, ⟨5, Ground.data⟩, ⟨7, Ground.gcOnly Departure.lateStores⟩], none⟩,
  ⟨none, Op.store 44 (Operand.tmp 2) (Operand.tmp 13), 0, "frame.go:205", #[⟨0, Ground.data⟩, ⟨5, Ground.chain⟩, ⟨0, Ground.phase⟩, ⟨1, Ground.textOnly Departure.lateStores⟩, ⟨2, Ground.textOnly Departure.lateStores⟩, ⟨3, Ground.textOnly Departure.lateStores⟩, ⟨4, Ground.textOnly Departure.lateStores⟩, ⟨5, Ground.textOnly Departure.lateStoresUnsure⟩, ⟨6, Ground.textOnly Departure.lateStores⟩], none⟩,
  ⟨some 3, Op.assign (Operand.tmp 19), 4, "frame.go:205", #[⟨6, Ground.data⟩, ⟨7, Ground.chain⟩, ⟨0, Ground.phase⟩, ⟨1, Ground.phase⟩, ⟨2, Ground.phase⟩, ⟨3, Ground.phase⟩, ⟨4, Ground.phase⟩, ⟨5, Ground.phase⟩, ⟨6, Ground.phase⟩, ⟨7, Ground.phase⟩], none⟩]
set_option maxHeartbeats 1000000 in
theorem regK {Q : Exit → Act → World → Prop} {ops : Array Oper} {a : Act} {w : World} {R g b pn cap id : Nat} {kn : ByteArray} {f : Fr.F} {av : Option Addr} {x : Bool} (hO : ops = litK)
    (hQ : ∀ c a w (d : Nat) v, Q (.panic c) (a.put (some d) v) w → Q (.panic c) a w) (sz : a.tmps.size = 20) (df : a.defers = [])
    (q1_0 : At a 1 (.pointer (some ⟨R, 0, none⟩)))
    (q2_0 : At a 2 (.pointer (some ⟨R + 1, 0, none⟩)))
    (q4_0 : At a 4 (.pointer (some ⟨g, 0, none⟩)))
    (q5_0 : At a 5 (.bool true))
    (s : KS2 R g b pn kn f av cap w)
    (C : Calls Tryz.prog 48 #[.agg #[.string kn, .slice (some ⟨b, 0, none⟩) pn pn], frv f av cap] w.drew fun e w1 => e = .returned (.bool x) ∧ KS2 R g b pn kn f av cap w1 ∧
      ∀ a', At a' 2 (.pointer (some ⟨R + 1, 0, none⟩)) → At a' 3 (.bool x) → a'.defers = [] → Q .normal a' (laidKind R b pn kn w1)) : (Code.region id ops true).wp Tryz.prog Q a w := by
  have hns : Region.noSelect ops = true := by rw [hO]; kernel_rfl
  have s0 : KS2 R g b pn kn f av cap w.drew := s
  refine wp_region_held (S := KS2 R g b pn kn f av cap) (by kernel_rfl) ?_
  rw [show ops.size = 9 by rw [hO]; rfl]
  show wpAnyH Tryz.prog .any ops Q (KS2 R g b pn kn f av cap) 9 #[false, false, false, false, false, false, false, false, false] a w.drew
  refine stepV 0 (o := ⟨some 13, Op.load 44 (Operand.tmp 4), 44, "frame.go:205", #[], none⟩) (v := .agg #[.string kn, .slice (some ⟨b, 0, none⟩) pn pn]) (d := 13) (listed' := #[true, false, false, false, false, false, false, false, false]) (by rw [hO]; rfl) rfl hns (by rw [hO]; kernel_rfl) (by rw [hO]; kernel_rfl) (by kernel_rfl) hQ trivial s0 (fun w h => rk_ldk q4_0 w h.1) ?_
  intro b1 e1
  have q1_1 := q1_0.mv e1 rfl
  have q2_1 := q2_0.mv e1 rfl
  have q4_1 := q4_0.mv e1 rfl
  have q5_1 := q5_0.mv e1 rfl
  have q13_1 : At b1 13 (.agg #[.string kn, .slice (some ⟨b, 0, none⟩) pn pn]) := e1 ▸ At.eq (by rw [sz]; decide)
  have z1 : b1.tmps.size = 20 := (e1 ▸ size_put _ _ _).trans sz
  have df1 : b1.defers = [] := by rw [e1]; exact df
  clear q1_0 q2_0 q4_0 q5_0 e1 sz df
  refine stepV 1 (o := ⟨some 14, Op.move (Operand.tmp 5), 4, "frame.go:205", #[], none⟩) (v := .bool true) (d := 14) (listed' := #[true, true, false, false, false, false, false, false, false]) (by rw [hO]; rfl) rfl hns (by rw [hO]; kernel_rfl) (by rw [hO]; kernel_rfl) (by kernel_rfl) hQ trivial s0 (fun w _ => rk_move q5_1 w) ?_
  intro b2 e2
  have q1_2 := q1_1.mv e2 rfl
  have q2_2 := q2_1.mv e2 rfl
  have q4_2 := q4_1.mv e2 rfl
  have q13_2 := q13_1.mv e2 rfl
  have q14_2 : At b2 14 (.bool true) := e2 ▸ At.eq (by rw [z1]; decide)
  have z2 : b2.tmps.size = 20 := (e2 ▸ size_put _ _ _).trans z1
  have df2 : b2.defers = [] := by rw [e2]; exact df1
  clear q1_1 q2_1 q4_1 q5_1 q13_1 e2 z1 df1
  refine stepV 2 (o := ⟨some 15, Op.move (Operand.tmp 14), 4, "frame.go:205", #[⟨1, Ground.data⟩], none⟩) (v := .bool true) (d := 15) (listed' := #[true, true, true, false, false, false, false, false, false]) (by rw [hO]; rfl) rfl hns (by rw [hO]; kernel_rfl) (by rw [hO]; kernel_rfl) (by kernel_rfl) hQ trivial s0 (fun w _ => rk_move q14_2 w) ?_
  intro b3 e3
  have q1_3 := q1_2.mv e3 rfl
  have q2_3 := q2_2.mv e3 rfl
  have q4_3 := q4_2.mv e3 rfl
  have q13_3 := q13_2.mv e3 rfl
  have q15_3 : At b3 15 (.bool true) := e3 ▸ At.eq (by rw [z2]; decide)
  have z3 : b3.tmps.size = 20 := (e3 ▸ size_put _ _ _).trans z2
  have df3 : b3.defers = [] := by rw [e3]; exact df2
  clear q1_2 q2_2 q4_2 q13_2 q14_2 e3 z2 df2
  refine stepV 3 (o := ⟨some 16, Op.load 44 (Operand.tmp 4), 44, "frame.go:205", #[⟨2, Ground.guard⟩], some (2, true)⟩) (v := .agg #[.string kn, .slice (some ⟨b, 0, none⟩) pn pn]) (d := 16) (listed' := #[true, true, true, true, false, false, false, false, false]) (by rw [hO]; rfl) rfl hns (by rw [hO]; kernel_rfl) (by rw [hO]; kernel_rfl) (by kernel_rfl) hQ ⟨15, by rw [hO]; rfl, q15_3⟩ s0 (fun w h => rk_ldk q4_3 w h.1) ?_
  intro b4 e4
  have q1_4 := q1_3.mv e4 rfl
  have q2_4 := q2_3.mv e4 rfl
  have q13_4 := q13_3.mv e4 rfl
  have q15_4 := q15_3.mv e4 rfl
  have q16_4 : At b4 16 (.agg #[.string kn, .slice (some ⟨b, 0, none⟩) pn pn]) := e4 ▸ At.eq (by rw [z3]; decide)
  have z4 : b4.tmps.size = 20 := (e4 ▸ size_put _ _ _).trans z3
  have df4 : b4.defers = [] := by rw [e4]; exact df3
  clear q1_3 q2_3 q4_3 q13_3 q15_3 e4 z3 df3
  refine stepV 4 (o := ⟨some 17, Op.load 26 (Operand.tmp 1), 26, "frame.go:205", #[⟨2, Ground.guard⟩], some (2, true)⟩) (v := frv f av cap) (d := 17) (listed' := #[true, true, true, true, true, false, false, false, false]) (by rw [hO]; rfl) rfl hns (by rw [hO]; kernel_rfl) (by rw [hO]; kernel_rfl) (by kernel_rfl) hQ ⟨15, by rw [hO]; rfl, q15_4⟩ s0 (fun w h => rk_ldf q1_4 w h.2.1) ?_
  intro b5 e5
  have q2_5 := q2_4.mv e5 rfl
  have q13_5 := q13_4.mv e5 rfl
  have q15_5 := q15_4.mv e5 rfl
  have q16_5 := q16_4.mv e5 rfl
  have q17_5 : At b5 17 (frv f av cap) := e5 ▸ At.eq (by rw [z4]; decide)
  have z5 : b5.tmps.size = 20 := (e5 ▸ size_put _ _ _).trans z4
  have df5 : b5.defers = [] := by rw [e5]; exact df4
  clear q1_4 q2_4 q13_4 q15_4 q16_4 e5 z4 df4
  refine stepC 5 (o := ⟨some 18, Op.call { callee := Callee.value (Operand.func 48), args := #[Operand.tmp 16, Operand.tmp 17], argTypes := #[44, 26] }, 4, "frame.go:205", #[⟨3, Ground.data⟩, ⟨4, Ground.data⟩, ⟨2, Ground.chain⟩, ⟨2, Ground.guard⟩], some (2, true)⟩) (d := 18) (f := 48) (args := #[.agg #[.string kn, .slice (some ⟨b, 0, none⟩) pn pn], frv f av cap]) (listed' := #[true, true, true, true, true, true, false, false, false]) (by rw [hO]; rfl) rfl (by rw [hO]; kernel_rfl) (by kernel_rfl) ⟨15, by rw [hO]; rfl, q15_5⟩ (rk_call2 q16_5 q17_5 w.drew) ?_
  refine C.mono ?_
  clear C
  rintro e w1 ⟨rfl, s1, C⟩
  refine ⟨_, rfl, s1, ?_⟩
  intro b6 e6
  have q2_6 := q2_5.mv e6 rfl
  have q13_6 := q13_5.mv e6 rfl
  have q15_6 := q15_5.mv e6 rfl
  have q18_6 : At b6 18 (.bool x) := e6 ▸ At.eq (by rw [z5]; decide)
  have z6 : b6.tmps.size = 20 := (e6 ▸ size_put _ _ _).trans z5
  have df6 : b6.defers = [] := by rw [e6]; exact df5
  clear q2_5 q13_5 q15_5 q16_5 q17_5 e6 z5 df5
  refine stepV 6 (o := ⟨some 19, Op.pick (Operand.tmp 15) (Operand.tmp 18) (Operand.const (Value.bool false)), 4, "frame.go:205", #[⟨2, Ground.data⟩, ⟨5, Ground.data⟩, ⟨7, Ground.gcOnly Departure.lateStores⟩], none⟩) (v := .bool x) (d := 19) (listed' := #[true, true, true, true, true, true, true, false, false]) (by rw [hO]; rfl) rfl hns (by rw [hO]; kernel_rfl) (by rw [hO]; kernel_rfl) (by kernel_rfl) hQ trivial s1 (fun w _ => rk_pick q15_6 q18_6 w) ?_
  intro b7 e7
  have q2_7 := q2_6.mv e7 rfl
  have q13_7 := q13_6.mv e7 rfl
  have q19_7 : At b7 19 (.bool x) := e7 ▸ At.eq (by rw [z6]; decide)
  have z7 : b7.tmps.size = 20 := (e7 ▸ size_put _ _ _).trans z6
  have df7 : b7.defers = [] := by rw [e7]; exact df6
  clear q2_6 q13_6 q15_6 q18_6 e7 z6 df6
  have s2 := s1.st
  refine stepS 7 (o := ⟨none, Op.store 44 (Operand.tmp 2) (Operand.tmp 13), 0, "frame.go:205", #[⟨0, Ground.data⟩, ⟨5, Ground.chain⟩, ⟨0, Ground.phase⟩, ⟨1, Ground.textOnly Departure.lateStores⟩, ⟨2, Ground.textOnly Departure.lateStores⟩, ⟨3, Ground.textOnly Departure.lateStores⟩, ⟨4, Ground.textOnly Departure.lateStores⟩, ⟨5, Ground.textOnly Departure.lateStoresUnsure⟩, ⟨6, Ground.textOnly Departure.lateStores⟩], none⟩) (listed' := #[true, true, true, true, true, true, true, true, false]) (by rw [hO]; rfl) rfl (by rw [hO]; kernel_rfl) (by kernel_rfl) trivial (rk_stk q2_7 q13_7 w1 s1.2.2) s2 ?_
  refine stepV 8 (o := ⟨some 3, Op.assign (Operand.tmp 19), 4, "frame.go:205", #[⟨6, Ground.data⟩, ⟨7, Ground.chain⟩, ⟨0, Ground.phase⟩, ⟨1, Ground.phase⟩, ⟨2, Ground.phase⟩, ⟨3, Ground.phase⟩, ⟨4, Ground.phase⟩, ⟨5, Ground.phase⟩, ⟨6, Ground.phase⟩, ⟨7, Ground.phase⟩], none⟩) (v := .bool x) (d := 3) (listed' := #[true, true, true, true, true, true, true, true, true]) (by rw [hO]; rfl) rfl hns (by rw [hO]; kernel_rfl) (by rw [hO]; kernel_rfl) (by kernel_rfl) hQ trivial s2 (fun w _ => rk_asg q19_7 w) ?_
  intro b8 e8
  have q2_8 := q2_7.mv e8 rfl
  have q3_8 : At b8 3 (.bool x) := e8 ▸ At.eq (by rw [z7]; decide)
  have z8 : b8.tmps.size = 20 := (e8 ▸ size_put _ _ _).trans z7
  have df8 : b8.defers = [] := by rw [e8]; exact df7
  clear q2_7 q13_7 q19_7 e8 z7 df7
  exact wpAnyH_done (by rw [hO]; kernel_rfl) (C _ q2_8 q3_8 df8) 0
end Go.Proofs.YtlfmpoinjbmjoaaGreatDoor

namespace Go.Proofs.YtlfmpoinjbmjoaaGreatDoor
open Go.ChangeShapes Go.WideShapes Go.ChangeAt Go.RowKit

theorem KMap.look {w : World} {m : Nat} (h : KMap w m) (k : Int) (hk : 1 ≤ k ∧ k ≤ 6) :
    ∃ v, KV w (k - 1).toNat v ∧ ∀ ok : Bool, (Instr.lookup 64 (.map (some m)) (.int .i64 k) ok).run Tryz.prog w = .ok (if ok then .tuple #[v, .bool true] else v) w := by
  obtain ⟨es, c, h1, h2, h3⟩ := h
  obtain ⟨e, he, hkey⟩ := h3 (k - 1).toNat (by omega)
  rw [show (((k - 1).toNat + 1 : Nat) : Int) = k by omega] at hkey
  obtain ⟨v, ⟨e', he', hk', hv'⟩, hrun⟩ := look_yes w h1 (fun e he => let ⟨j, _, h, _⟩ := h2 e he; ⟨_, h⟩) ⟨e, he, hkey⟩
  refine ⟨v, ?_, hrun⟩
  obtain ⟨j, hj, hkk, hkv⟩ := h2 e' he'
  rw [hk'] at hkk
  have : j = (k - 1).toNat := by
    simp only [Value.int.injEq, true_and] at hkk
    omega
  rw [← this, ← hv']
  exact hkv
theorem KMap.miss {w : World} {m : Nat} (h : KMap w m) (k : Int) (hk : ¬ (1 ≤ k ∧ k ≤ 6)) (ok : Bool) :
    (Instr.lookup 64 (.map (some m)) (.int .i64 k) ok).run Tryz.prog w = .ok (if ok then .tuple #[.agg #[.string ⟨#[]⟩, .slice none 0 0], .bool false] else .agg #[.string ⟨#[]⟩, .slice none 0 0]) w := by
  obtain ⟨es, c, h1, h2, h3⟩ := h
  exact look_no w h1 (fun e he => let ⟨j, hj, h, _⟩ := h2 e he; ⟨_, h, by omega⟩) ok
theorem kparts_has (k : Int) (hk : 1 ≤ k ∧ k ≤ 6) : Fr.has k = some (kparts (k - 1).toNat) ∧ Fr.parts k = kparts (k - 1).toNat ∧ (kparts (k - 1).toNat).length ≤ 3 := by
  rcases Fr.has_cases k with ⟨rfl, h⟩ | ⟨rfl, h⟩ | ⟨rfl, h⟩ | ⟨rfl, h⟩ | ⟨rfl, h⟩ | ⟨rfl, h⟩ | ⟨e, _⟩
  all_goals first | exact ⟨h.1, h.2, by decide⟩ | omega
theorem right_of_allows (f : Fr.F) (hk : 1 ≤ f.k ∧ f.k ≤ 6) : Fr.right f = Fr.allows (kparts (f.k - 1).toNat) f := by
  obtain ⟨h1, h2, _⟩ := kparts_has f.k hk
  rw [Fr.right, h1, h2]
  rfl
theorem right_no (f : Fr.F) (hk : ¬ (1 ≤ f.k ∧ f.k ≤ 6)) : Fr.right f = false := by
  cases h : Fr.right f with
  | false => rfl
  | true => exact absurd (Fr.right_kind f h) hk

theorem look_two {w : World} {m : Nat} (h : KMap w m) (k : Int) (j : Nat) (hk : k = ((j + 1 : Nat) : Int)) (hj6 : j < 6) : ∃ b, Blk w b (kcells j) 54 ∧
    (Instr.lookup 64 (.map (some m)) (.int .i64 k) true).run Tryz.prog w = .ok (.tuple #[.agg #[.string (kname j), .slice (some ⟨b, 0, none⟩) (kparts j).length (kparts j).length], .bool true]) w ∧
    ∀ o : Obj, (Instr.lookup 64 (.map (some m)) (.int .i64 k) true).run Tryz.prog (w.alloc o) = .ok (.tuple #[.agg #[.string (kname j), .slice (some ⟨b, 0, none⟩) (kparts j).length (kparts j).length], .bool true]) (w.alloc o) := by
  obtain ⟨es, c, h1, h2, h3⟩ := h
  obtain ⟨e, he, hkey⟩ := h3 j hj6
  rw [← hk] at hkey
  obtain ⟨i, v, hf, e', he', hk', hv'⟩ := findNow_yes k es.toList 0 (fun e he => let ⟨j, _, h, _⟩ := h2 e he; ⟨_, h⟩) ⟨e, he, hkey⟩
  obtain ⟨x, hx, hkk, b, hvb, hb⟩ := h2 e' he'
  rw [hk'] at hkk
  have : x = j := by
    simp only [Value.int.injEq, true_and] at hkk
    omega
  subst this
  rw [hv'] at hvb
  subst hvb
  have run : ∀ W : World, W.heap[m]? = some (.map es c) → (Instr.lookup 64 (.map (some m)) (.int .i64 k) true).run Tryz.prog W = .ok (.tuple #[.agg #[.string (kname x), .slice (some ⟨b, 0, none⟩) (kparts x).length (kparts x).length], .bool true]) W := by
    intro W hW
    have hg := MapKept.run_getObj_map (P := Tryz.prog) hW
    have hf := MapKept.run_findKey (P := Tryz.prog) (w := W) (kt := 3) (k := .int .i64 k) (l := es.toList) Tryz.underlying3 hf
    have hc : ∀ b, (Instr.checkKey b 10000 3 (.int .i64 k)).run Tryz.prog W = .ok () W := fun b => by cases b <;> kernel_rfl
    simp [go_sem, Instr.lookup, hg, hf, hc]
  exact ⟨b, hb, run w h1, fun o => run _ (map_kept h1 ((Kept.refl w).alloc o))⟩
theorem zero_kind {W w1 : World} (k : Kept (W.alloc (.cells #[.string ⟨#[]⟩, .slice none 0 0] 44)).drew w1) :
    w1.cell? ⟨W.heap.size, 0, none⟩ = some (.string ⟨#[]⟩) ∧ w1.cell? ⟨W.heap.size, 1, none⟩ = some (.slice none 0 0) ∧ w1.frozen? ⟨W.heap.size, 0, none⟩ = false ∧ w1.frozen? ⟨W.heap.size, 1, none⟩ = false ∧ Blk w1 W.heap.size #[.string ⟨#[]⟩, .slice none 0 0] 44 := by
  have b : Blk (W.alloc (.cells #[.string ⟨#[]⟩, .slice none 0 0] 44)).drew W.heap.size #[.string ⟨#[]⟩, .slice none 0 0] 44 := Blk.made W _ _
  have b1 := b.kept k
  exact ⟨cell_of b1 0 rfl, cell_of b1 1 rfl, b1.frozen 0, b1.frozen 1, b1⟩
theorem miss_two {w : World} {m : Nat} (h : KMap w m) (k : Int) (hk : ¬ (1 ≤ k ∧ k ≤ 6)) :
    (Instr.lookup 64 (.map (some m)) (.int .i64 k) true).run Tryz.prog w = .ok (.tuple #[.agg #[.string ⟨#[]⟩, .slice none 0 0], .bool false]) w ∧
    ∀ o : Obj, (Instr.lookup 64 (.map (some m)) (.int .i64 k) true).run Tryz.prog (w.alloc o) = .ok (.tuple #[.agg #[.string ⟨#[]⟩, .slice none 0 0], .bool false]) (w.alloc o) :=
  ⟨by have := h.miss k hk true; simpa using this, fun o => by have := (h.kept ((Kept.refl w).alloc o)).miss k hk true; simpa using this⟩
theorem blk_ne {w : World} {b g : Nat} {cs cs' : Array Value} (h : Blk w b cs 54) (h' : Blk w g cs' 44) : b ≠ g := fun e => by
  subst e
  unfold Blk at h h'
  rw [h] at h'
  simp at h'
theorem laid_kept {w0 w : World} (b pn : Nat) (kn : ByteArray) (R : Nat) (k : Kept w0 w) (hR : w0.heap.size ≤ R + 1 := by omega) : Kept w0 (laidKind R b pn kn w) :=
  Below.setCell (Below.setCell k (p := ⟨R + 1, 0, none⟩) hR _) (p := ⟨R + 1, 1, none⟩) hR _
theorem ret_kind (tmps : Array Value) (W : World) (R : Nat) (u v : Value) (x : Bool) (h2 : tmps[2]? = some (.pointer (some ⟨R, 0, none⟩))) (h3 : tmps[3]? = some (.bool x)) (hb : Blk W R #[u, v] 44) :
    (results Tryz.f24 tmps).run Tryz.prog W = .ok (.tuple #[.agg #[u, v], .bool x]) W := by
  have c0 : W.cell? ⟨R, 0, none⟩ = some u := cell_of hb 0 rfl
  have c1 : W.cell? ⟨R, 1, none⟩ = some v := cell_of hb 1 rfl
  simp [results, Tryz.f24, go_sem, h2, h3, c0, c1]
set_option maxHeartbeats 1000000 in
set_option maxRecDepth 100000 in
theorem kindOf_any (f : Fr.F) (av : Option Addr) (cap : Nat) (w : World) (hf : FrS w f av cap) :
    Calls Tryz.prog 24 #[frv f av cap] w fun r w' => (∃ nm p l c, r = .returned (.tuple #[.agg #[.string nm, .slice p l c], .bool (Fr.right f)]) ∧ (Fr.right f = true → KV w' (f.k - 1).toNat (.agg #[.string nm, .slice p l c]))) ∧ Kept w w' := by
  have HF := Lib.hid hf
  clear hf
  have HFV : Hid (frv f av cap = frv f av cap) := rfl
  unfold frv frc
  go_enter Tryz.func24, Tryz.ntmps24
  have b0 := (Blk.made w (frc f av cap) 26).alloc (.cells #[.string ⟨#[]⟩, .slice none 0 0] 44)
  have k0 : Kept w ((w.alloc (.cells (frc f av cap) 26)).alloc (.cells #[.string ⟨#[]⟩, .slice none 0 0] 44)) := ((Kept.refl w).alloc _).alloc _
  have r0 := Blk.made (w.alloc (.cells (frc f av cap) 26)) #[.string ⟨#[]⟩, .slice none 0 0] 44
  rw [World.size_alloc] at r0
  unfold frc at b0 k0 r0
  go_wp2_with fail
  generalize hW : (w.alloc _).alloc _ = W at b0 k0 r0 ⊢
  have R0 := Lib.hid r0
  have B0 := Lib.hid (show Blk W w.heap.size (frc f av cap) 26 from b0)
  have K0 := Lib.hid k0
  have key : ∀ w', Kept W w' → w'.cell? ⟨w.heap.size, 0, none⟩ = some (.int .i64 f.k) := fun w' k => cell_of (B0.out.kept k) 0 rfl
  have s0 := key W.drew ((Kept.refl W).drew)
  have KEY := Lib.hid key
  clear b0 k0 r0 hW key
  rename_i K2 hK2
  by_cases hk : 1 ≤ f.k ∧ f.k ≤ 6
  · obtain ⟨j, hj⟩ : ∃ j, j = (f.k - 1).toNat := ⟨_, rfl⟩
    have HX := Lib.hid (right_of_allows f hk)
    have HP := Lib.hid (kparts_has f.k hk)
    have HJ : Hid (f.k = ((j + 1 : Nat) : Int) ∧ j < 6) := ⟨by omega, by omega⟩
    rw [← hj] at HX HP
    have HJJ := Lib.hid hj
    clear hk hj
    have key2 : ∀ (g m b : Nat) (w2 : World), Kept W w2 → W.heap.size ≤ g → Blk w2 g #[.string (kname j), .slice (some ⟨b, 0, none⟩) (kparts j).length (kparts j).length] 44 → Blk w2 b (kcells j) 54 → K2
        { tmps := #[.agg #[.int .i64 f.k, .int .i64 f.ep, .int .i64 f.sq, .int .i64 f.cr, .bool f.on, .string f.fl, .int .i64 f.e.o, .int .i64 f.e.s, .string f.e.t, .string f.e.l, .int .i64 f.e.d, .slice av f.ms.length cap],
            .pointer (some ⟨w.heap.size, 0, none⟩), .pointer (some ⟨w.heap.size + 1, 0, none⟩), .bool false, .pointer (some ⟨g, 0, none⟩), .bool true,
            .tuple #[.agg #[.string (kname j), .slice (some ⟨b, 0, none⟩) (kparts j).length (kparts j).length], .bool true], .map (some m), .pointer (some ⟨w.heap.size, 0, none⟩), .int .i64 f.k,
            .tuple #[.agg #[.string (kname j), .slice (some ⟨b, 0, none⟩) (kparts j).length (kparts j).length], .bool true], .agg #[.string (kname j), .slice (some ⟨b, 0, none⟩) (kparts j).length (kparts j).length], .bool true, undef, undef, undef, undef, undef, undef, undef], defers := [] } w2 := by
      intro g m b w2 k2 hg bg bb
      refine hK2 _ _ ?_
      have bf := B0.out.kept k2
      have br := R0.out.kept k2
      have CA := allows_any (kname j) f av cap b (kparts j).length w2.drew (kparts j) rfl (bb.kept (Kept.refl w2).drew) HP.out.2.2 (HF.out.kept ((K0.out.trans k2).trans (Kept.refl w2).drew))
      have hne : g ≠ w.heap.size + 1 := by have := R0.out.lt; omega
      have s : KS2 w.heap.size g b (kparts j).length (kname j) f av cap w2 := ⟨bg, bf, _, _, br, hne⟩
      have HKK : Hid (∀ w', Kept w2.drew w' → Kept w (laidKind w.heap.size b (kparts j).length (kname j) w')) := fun w' k => laid_kept _ _ _ w.heap.size (((K0.out.trans k2).trans (Kept.refl w2).drew).trans k)
      have HBB := Lib.hid bb
      have HS := Lib.hid s
      have HCA := Lib.hid CA
      clear bf br bg bb s CA k2 hne hg
      obtain ⟨pn, hpn⟩ : ∃ pn, pn = (kparts j).length := ⟨_, rfl⟩
      obtain ⟨kn, hkn⟩ : ∃ kn, kn = kname j := ⟨_, rfl⟩
      rw [← hpn, ← hkn] at HS HCA HKK ⊢
      have HPN := Lib.hid hpn
      have HKN := Lib.hid hkn
      clear hpn hkn
      go_wp2_with fail
      rename_i K3 hK3
      refine regK (R := w.heap.size) (g := g) (b := b) (pn := pn) (kn := kn) (f := f) (av := av) (cap := cap) (x := Fr.allows (kparts j) f) rfl (fun _ _ _ _ _ h => h) rfl rfl rfl rfl rfl rfl HS.out ?_
      refine HCA.out.mono ?_
      rintro e w3 ⟨rfl, k3⟩
      have hs3 := HS.out.kept ((Kept.refl w2).drew.trans k3)
      refine ⟨rfl, hs3, ?_⟩
      intro a' h2 h3 hd
      refine hK3 _ _ ?_
      refine wp_ret ?_
      obtain ⟨tmps, defers⟩ := a'
      simp only at hd
      subst hd
      obtain ⟨_, _, u, v, hb3, hne⟩ := hs3
      have hb4 : Blk (laidKind w.heap.size b pn kn w3) (w.heap.size + 1) #[.string kn, .slice (some ⟨b, 0, none⟩) pn pn] 44 := (hb3.set 0 (.string kn)).set 1 (.slice (some ⟨b, 0, none⟩) pn pn)
      show bodyPost Tryz.prog Tryz.f24 (fun r w' => (∃ nm p l c, r = .returned (.tuple #[.agg #[.string nm, .slice p l c], .bool (Fr.right f)]) ∧ (Fr.right f = true → KV w' (f.k - 1).toNat (.agg #[.string nm, .slice p l c]))) ∧ Kept w w') .ret ⟨tmps, []⟩ _
      refine bodyPost_ret (ret_kind tmps _ _ _ _ _ h2 h3 hb4) rfl ⟨⟨kn, some ⟨b, 0, none⟩, pn, pn, by rw [HX.out], fun _ => ?_⟩, HKK.out _ k3⟩
      rw [← HJJ.out, HKN.out, HPN.out]
      refine ⟨b, rfl, ?_⟩
      have hbb := HBB.out.kept ((Kept.refl w2).drew.trans k3)
      have hneb : b ≠ w.heap.size + 1 := fun e => by
        subst e
        unfold Blk at hbb hb3
        rw [hb3] at hbb
        simp at hbb
      exact (hbb.far ⟨w.heap.size + 1, 0, none⟩ _ hneb).far ⟨w.heap.size + 1, 1, none⟩ _ hneb
    have KEY2 := Lib.hid key2
    clear key2 hK2
    go_region_held3 (fun w' => w'.cell? ⟨w.heap.size, 0, none⟩ = some (.int .i64 f.k)) (first | exact s0 | exact s1 | exact KEY.out _ (((Kept.refl W).drew).alloc _) | exact KEY.out _ (Kept.alloc k1 _) | exact KEY.out _ (Below.setCell (Below.setCell k1 (p := ⟨W.heap.size, 0, none⟩) (Nat.le_refl _) _) (p := ⟨W.heap.size, 1, none⟩) (Nat.le_refl _) _))
      ((go_at_call 40; refine (kinds_any _).mono ?_; rintro r w1 ⟨m, rfl, hm, k1'⟩
        have k1 : Kept W w1 := (by first | exact ((Kept.refl W).drew).trans k1' | exact (((Kept.refl W).drew).alloc _).trans k1' | exact (((Kept.refl W).alloc _).drew).trans k1')
        have s1 := KEY.out w1 k1
        obtain ⟨b, hb, hl, hl2⟩ := look_two hm f.k j HJ.out.1 HJ.out.2
        first | (have qq := zero_kind k1'; obtain ⟨q1, q2, q3, q4, q5⟩ := qq; have Q5 := Lib.hid q5; clear q5) | skip))
    all_goals first
      | exact KEY2.out _ _ _ _ (Kept.alloc k1 _) k1.size (Blk.made w1 _ _) (hb.alloc _)
      | exact KEY2.out _ _ _ _ (Below.setCell (Below.setCell k1 (p := ⟨W.heap.size, 0, none⟩) (Nat.le_refl _) _) (p := ⟨W.heap.size, 1, none⟩) (Nat.le_refl _) _) (Nat.le_refl _) ((Q5.out.set 0 _).set 1 _) ((hb.far ⟨W.heap.size, 0, none⟩ _ (blk_ne hb Q5.out)).far ⟨W.heap.size, 1, none⟩ _ (blk_ne hb Q5.out))
  · have HX := Lib.hid (right_no f hk)
    have HK := Lib.hid hk
    clear hk
    have key2 : ∀ (g m : Nat) (w2 : World), Kept W w2 → W.heap.size ≤ g → Blk w2 g #[.string ⟨#[]⟩, .slice none 0 0] 44 → K2
        { tmps := #[.agg #[.int .i64 f.k, .int .i64 f.ep, .int .i64 f.sq, .int .i64 f.cr, .bool f.on, .string f.fl, .int .i64 f.e.o, .int .i64 f.e.s, .string f.e.t, .string f.e.l, .int .i64 f.e.d, .slice av f.ms.length cap],
            .pointer (some ⟨w.heap.size, 0, none⟩), .pointer (some ⟨w.heap.size + 1, 0, none⟩), .bool false, .pointer (some ⟨g, 0, none⟩), .bool false,
            .tuple #[.agg #[.string ⟨#[]⟩, .slice none 0 0], .bool false], .map (some m), .pointer (some ⟨w.heap.size, 0, none⟩), .int .i64 f.k,
            .tuple #[.agg #[.string ⟨#[]⟩, .slice none 0 0], .bool false], .agg #[.string ⟨#[]⟩, .slice none 0 0], .bool false, undef, undef, undef, undef, undef, undef, undef], defers := [] } w2 := by
      intro g m w2 k2 hg bg
      refine hK2 _ _ ?_
      have br := R0.out.kept k2
      have t0 := KW.cell (cell_of bg 0 rfl)
      have t1 := KW.cell (cell_of bg 1 rfl)
      have y0 := KW.cell (cell_of br 0 rfl)
      have y1 := KW.cell (cell_of br 1 rfl)
      have x0 : ∀ p : KW w2, p.v.frozen? ⟨w.heap.size + 1, 0, none⟩ = false := fun p => (br.kept p.h).frozen 0
      have x1 : ∀ p : KW w2, p.v.frozen? ⟨w.heap.size + 1, 1, none⟩ = false := fun p => (br.kept p.h).frozen 1
      have z0 : ∀ p : KW w2, p.v.setCell ⟨w.heap.size + 1, 0, none⟩ (.string ⟨#[]⟩) = p.v := fun p => set_same (y0 p)
      have z1 : ∀ p : KW w2, p.v.setCell ⟨w.heap.size + 1, 1, none⟩ (.slice none 0 0) = p.v := fun p => set_same (y1 p)
      have BR := Lib.hid br
      have KK2 := Lib.hid (K0.out.trans k2)
      clear bg br k2 hg
      go_wp2_with fail
      have nn : Nonempty (KW w2) := ⟨⟨w2, Kept.refl w2⟩⟩
      refine wp_region_kept (by kernel_rfl) (by kernel_rfl) ?_
      repeat (go_big_quiet_step (fail))
      refine wpQuiet_nil ?_
      intro w6 hw6
      have kk6 : Kept w2 w6 := by
        obtain ⟨p, rfl⟩ := hw6
        exact p.h
      have b6 := BR.out.kept kk6
      have K6 := Lib.hid (KK2.out.trans kk6)
      clear hw6 nn t0 t1 y0 y1 x0 x1 z0 z1 kk6
      have B6 := Lib.hid b6
      clear b6
      go_wp2
      exact bodyPost_ret (ret_kind _ _ _ _ _ _ rfl rfl B6.out) rfl ⟨⟨_, _, _, _, by rw [HX.out], fun h => by rw [HX.out] at h; cases h⟩, K6.out⟩
    have KEY2 := Lib.hid key2
    clear key2 hK2
    go_region_held3 (fun w' => w'.cell? ⟨w.heap.size, 0, none⟩ = some (.int .i64 f.k)) (first | exact s0 | exact s1 | exact KEY.out _ (((Kept.refl W).drew).alloc _) | exact KEY.out _ (Kept.alloc k1 _) | exact KEY.out _ (Below.setCell (Below.setCell k1 (p := ⟨W.heap.size, 0, none⟩) (Nat.le_refl _) _) (p := ⟨W.heap.size, 1, none⟩) (Nat.le_refl _) _))
      ((go_at_call 40; refine (kinds_any _).mono ?_; rintro r w1 ⟨m, rfl, hm, k1'⟩
        have k1 : Kept W w1 := (by first | exact ((Kept.refl W).drew).trans k1' | exact (((Kept.refl W).drew).alloc _).trans k1' | exact (((Kept.refl W).alloc _).drew).trans k1')
        have s1 := KEY.out w1 k1
        obtain ⟨hl, hl2⟩ := miss_two hm f.k HK.out
        first | (have qq := zero_kind k1'; obtain ⟨q1, q2, q3, q4, q5⟩ := qq; have Q5 := Lib.hid q5; clear q5) | skip))
    all_goals first
      | exact KEY2.out _ _ _ (Kept.alloc k1 _) k1.size (Blk.made w1 _ _)
      | exact KEY2.out _ _ _ (Below.setCell (Below.setCell k1 (p := ⟨W.heap.size, 0, none⟩) (Nat.le_refl _) _) (p := ⟨W.heap.size, 1, none⟩) (Nat.le_refl _) _) (Nat.le_refl _) ((Q5.out.set 0 _).set 1 _)
end Go.Proofs.YtlfmpoinjbmjoaaGreatDoor
