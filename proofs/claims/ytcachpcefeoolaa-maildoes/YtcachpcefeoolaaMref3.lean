/-
  Boxes beside the document's boxes.
-/
import Derived.Test.YtcachpcefeoolaaMref2
namespace Go.Proofs.Ytcachpcefeoolaa
open Go.ChangeShapes Go.WideShapes Go.ChangeAt Go.RowKit

/-- what a box of the document's may write -/
abbrev RS (b : Nat) (v : Value) : Nat → Prop := fun i => i = b ∨ v.ownBlock = some i
theorem RB.chan {w w' : World} {base b : Nat} {v : Value} {size : Int} {l : List ByteArray} (h : RB w base b v size l) {c cap : Nat} {l' : List ByteArray} (hc : Ch w c cap l') (k : But (fun i => i = c) w w') : RB w' base b v size l := by
  obtain ⟨s, r, hd⟩ := hc
  refine h.but k (fun e => ?_) fun i e he => ?_
  · have := h.blk; rw [e, hd] at this; cases this
  · obtain ⟨_, cur, hg⟩ := h.row.blk e
    rw [he, hd] at hg; cases hg
theorem RB.chan2 {w w' : World} {base b : Nat} {v : Value} {size : Int} {l : List ByteArray} (h : RB w base b v size l) {c cap c' cap' : Nat} {l' l'' : List ByteArray} (hc : Ch w c cap l') (hc' : Ch w c' cap' l'') (k : But (fun i => i = c ∨ i = c') w w') : RB w' base b v size l := by
  obtain ⟨s, r, hd⟩ := hc
  obtain ⟨s', r', hd'⟩ := hc'
  refine h.but k (fun e => ?_) fun i e he => ?_
  · have := h.blk
    rcases e with e | e
    · rw [e, hd] at this; cases this
    · rw [e, hd'] at this; cases this
  · obtain ⟨_, cur, hg⟩ := h.row.blk e
    rcases he with he | he
    · rw [he, hd] at hg; cases hg
    · rw [he, hd'] at hg; cases hg
theorem Bx.rb {w w' : World} {b c cap : Nat} {l : List ByteArray} (h : Bx w b c cap l) {base b' : Nat} {v : Value} {size : Int} {l' : List ByteArray} (r : RB w base b' v size l') (k : But (RS b' v) w w') : Bx w' b c cap l := by
  refine ⟨k.at h.blk fun e => ?_, h.ch.but k fun e => ?_, h.few, h.room, h.small⟩
  · rcases e with e | e
    · have := r.blk
      rw [← e, h.blk] at this
      injection this with this
      injection this with _ ht
      exact absurd ht (by decide)
    · obtain ⟨_, cur, hg⟩ := r.row.blk e
      rw [h.blk] at hg
      injection hg with hg
      injection hg with _ ht
      exact absurd ht (by decide)
  · obtain ⟨s, r', hd⟩ := h.ch
    rcases e with e | e
    · have := r.blk
      rw [← e, hd] at this
      cases this
    · obtain ⟨_, cur, hg⟩ := r.row.blk e
      rw [hd] at hg; cases hg
theorem RB.rb {w w' : World} {base base' b b' : Nat} {v v' : Value} {size size' : Int} {l l' : List ByteArray} (h : RB w base' b' v' size' l') (r : RB w base b v size l) (hne : b ≠ b') (ha : Apart2 v v') (k : But (RS b v) w w') : RB w' base' b' v' size' l' := by
  refine h.but k (fun e => ?_) fun i e he => ?_
  · rcases e with e | e
    · exact hne e.symm
    · obtain ⟨_, cur, hg⟩ := r.row.blk e
      rw [h.blk] at hg
      injection hg with hg
      injection hg with _ ht
      exact absurd ht (by decide)
  · rcases he with he | he
    · obtain ⟨_, cur, hg⟩ := h.row.blk e
      have := r.blk
      rw [← he, hg] at this
      injection this with this
      injection this with _ ht
      exact absurd ht (by decide)
    · exact ha i he e
theorem OffS.rb {w w' : World} {base base' b : Nat} {v u : Value} {size : Int} {l : List ByteArray} {xs : List (List UInt8)} (h : OffS w base' u xs) (r : RB w base b v size l) (k : But (fun i => i = b) w w') : OffS w' base' u xs :=
  h.but k fun i e he => by
    obtain ⟨_, cur, hg⟩ := h.blk e
    have := r.blk
    rw [← he, hg] at this
    injection this with this
    injection this with _ ht
    exact absurd ht (by decide)
theorem kept_rb {w0 w w' : World} {base b : Nat} {v : Value} {size : Int} {l : List ByteArray} (K : Kept w0 w) (r : RB w base b v size l) (hb : w0.heap.size ≤ base) (hb' : w0.heap.size ≤ b) (k : But (RS b v) w w') : Kept w0 w' :=
  But.after K k fun i hi e => by
    rcases e with e | e
    · omega
    · have := (r.row.blk e).1; omega

/-- what Put answers, and what there is then -/
def putE (n : Nat) (l : List ByteArray) : Int := if l.length < n then 0 else 7
def putL (n : Nat) (l : List ByteArray) (x : ByteArray) : List ByteArray := if l.length < n then l ++ [x] else l
theorem put_any (b c cap : Nat) (l : List ByteArray) (x : ByteArray) (w : World) (h : Bx w b c cap l) (hx : x.size ≤ 281474976710656) :
    Calls Try.prog 11 #[.pointer (some ⟨b, 0, none⟩), .string x] w fun e w' => e = .returned (.int .i64 (putE cap l)) ∧ Bx w' b c cap (putL cap l x) ∧ But (fun i => i = c) w w' := by
  unfold putE putL
  by_cases hr : l.length < cap
  · rw [if_pos hr, if_pos hr]; exact put_room b c cap l x w h hx hr
  · rw [if_neg hr, if_neg hr]; exact (put_full b c cap l x w h hx (by omega)).mono fun e w' ⟨he, k⟩ => ⟨he, h.kept k, k.but⟩
theorem rput_any (base b : Nat) (v : Value) (n : Nat) (l : List ByteArray) (x : ByteArray) (w : World) (h : RB w base b v n l) (hb : base ≤ w.heap.size) (hl : l.length ≤ 1000) :
    Calls Try.prog 12 #[.pointer (some ⟨b, 0, none⟩), .string x] w fun e w' => e = .returned (.int .i64 (putE n l)) ∧ ∃ v', RB w' base b v' n (putL n l x) ∧ Went w v v' ∧ But (RS b v) w w' := by
  unfold putE putL
  by_cases hr : l.length < n
  · rw [if_pos hr, if_pos hr]; exact rput_room base b v n l x w h hb (by omega) hl
  · rw [if_neg hr, if_neg hr]; exact (rput_full base b v n l x w h (by omega)).mono fun e w' ⟨he, k⟩ => ⟨he, v, h.kept k, .inl rfl, k.but⟩
theorem rtake_any (base b : Nat) (v : Value) (size : Int) (l : List ByteArray) (w : World) (h : RB w base b v size l) :
    Calls Try.prog 14 #[.pointer (some ⟨b, 0, none⟩)] w fun e w' => e = .returned (tells l) ∧ ∃ v', RB w' base b v' size l.tail ∧ Went w v v' ∧ But (RS b v) w w' := by
  cases l with
  | nil => exact (rtake_none base b v size w h).mono fun e w' ⟨he, k⟩ => ⟨he, v, h.kept k, .inl rfl, k.but⟩
  | cons x t => exact (rtake_some base b v size x t w h).mono fun e w' ⟨he, v', h', hv, k⟩ => ⟨by rw [he]; simp [tells, hd], v', h', .inl hv, k.mono fun i _ e => .inl e⟩
theorem rfirst_any' (base b : Nat) (v : Value) (size : Int) (l : List ByteArray) (w : World) (h : RB w base b v size l) :
    Calls Try.prog 16 #[.pointer (some ⟨b, 0, none⟩)] w fun e w' => e = .returned (tells l) ∧ Kept w w' := by
  cases l with
  | nil => exact rfirst_none base b v size w h
  | cons x t => exact (rfirst_some base b v size x t w h).mono fun e w' ⟨he, k⟩ => ⟨by rw [he]; simp [tells, hd], k⟩

/-- boxes of both kinds, two and two -/
structure Four (W w : World) (N ab ac bb bc xb yb : Nat) (vx vy : Value) (la lb lx ly : List ByteArray) : Prop where
  a : Bx w ab ac N la
  b : Bx w bb bc 3 lb
  x : RB w W.heap.size xb vx N lx
  y : RB w W.heap.size yb vy (3 : Nat) ly
  kept : Kept W w
  ne : bc ≠ ac
  xy : xb ≠ yb
  ap : Apart2 vx vy
  la : W.heap.size ≤ ac
  lb : W.heap.size ≤ bc
  lx : W.heap.size ≤ xb
  ly : W.heap.size ≤ yb
section
variable {W w w' : World} {N ab ac bb bc xb yb : Nat} {vx vy : Value} {la lb lx ly : List ByteArray}
theorem Four.still (h : Four W w N ab ac bb bc xb yb vx vy la lb lx ly) (k : Kept w w') : Four W w' N ab ac bb bc xb yb vx vy la lb lx ly :=
  ⟨h.a.kept k, h.b.kept k, h.x.kept k, h.y.kept k, h.kept.trans k, h.ne, h.xy, h.ap, h.la, h.lb, h.lx, h.ly⟩
theorem Four.stepA (h : Four W w N ab ac bb bc xb yb vx vy la lb lx ly) (k : But (fun i => i = ac) w w') {la' : List ByteArray} (a' : Bx w' ab ac N la') : Four W w' N ab ac bb bc xb yb vx vy la' lb lx ly :=
  ⟨a', h.b.over h.a h.ne k, h.x.chan h.a.ch k, h.y.chan h.a.ch k, But.after h.kept k fun i hi e => by have := h.la; omega, h.ne, h.xy, h.ap, h.la, h.lb, h.lx, h.ly⟩
theorem Four.stepB (h : Four W w N ab ac bb bc xb yb vx vy la lb lx ly) (k : But (fun i => i = bc) w w') {lb' : List ByteArray} (b' : Bx w' bb bc 3 lb') : Four W w' N ab ac bb bc xb yb vx vy la lb' lx ly :=
  ⟨h.a.over h.b h.ne.symm k, b', h.x.chan h.b.ch k, h.y.chan h.b.ch k, But.after h.kept k fun i hi e => by have := h.lb; omega, h.ne, h.xy, h.ap, h.la, h.lb, h.lx, h.ly⟩
theorem Four.stepX (h : Four W w N ab ac bb bc xb yb vx vy la lb lx ly) (k : But (RS xb vx) w w') {vx' : Value} {lx' : List ByteArray} (x' : RB w' W.heap.size xb vx' N lx') (g : Went w vx vx') : Four W w' N ab ac bb bc xb yb vx' vy la lb lx' ly :=
  ⟨h.a.rb h.x k, h.b.rb h.x k, x', h.y.rb h.x h.xy h.ap k, kept_rb h.kept h.x (Nat.le_refl _) h.lx k, h.ne, h.xy, h.ap.went g h.y.row, h.la, h.lb, h.lx, h.ly⟩
theorem Four.stepY (h : Four W w N ab ac bb bc xb yb vx vy la lb lx ly) (k : But (RS yb vy) w w') {vy' : Value} {ly' : List ByteArray} (y' : RB w' W.heap.size yb vy' (3 : Nat) ly') (g : Went w vy vy') : Four W w' N ab ac bb bc xb yb vx vy' la lb lx ly' :=
  ⟨h.a.rb h.y k, h.b.rb h.y k, h.x.rb h.y h.xy.symm h.ap.symm k, y', kept_rb h.kept h.y (Nat.le_refl _) h.ly k, h.ne, h.xy, (h.ap.symm.went g h.x.row).symm, h.la, h.lb, h.lx, h.ly⟩

theorem Four.put_a (h : Four W w N ab ac bb bc xb yb vx vy la lb lx ly) (s : ByteArray) (hs : s.size ≤ 40) :
    Calls Try.prog 11 #[.pointer (some ⟨ab, 0, none⟩), .string s] w fun e w' => e = .returned (.int .i64 (putE N la)) ∧ Four W w' N ab ac bb bc xb yb vx vy (putL N la s) lb lx ly :=
  (put_any _ _ _ _ s w h.a (by omega)).mono fun _ _ ⟨he, a', k⟩ => ⟨he, h.stepA k a'⟩
theorem Four.put_b (h : Four W w N ab ac bb bc xb yb vx vy la lb lx ly) (s : ByteArray) (hs : s.size ≤ 40) :
    Calls Try.prog 11 #[.pointer (some ⟨bb, 0, none⟩), .string s] w fun e w' => e = .returned (.int .i64 (putE 3 lb)) ∧ Four W w' N ab ac bb bc xb yb vx vy la (putL 3 lb s) lx ly :=
  (put_any _ _ _ _ s w h.b (by omega)).mono fun _ _ ⟨he, b', k⟩ => ⟨he, h.stepB k b'⟩
theorem Four.put_x (h : Four W w N ab ac bb bc xb yb vx vy la lb lx ly) (s : ByteArray) (hl : lx.length ≤ 1000) :
    Calls Try.prog 12 #[.pointer (some ⟨xb, 0, none⟩), .string s] w fun e w' => e = .returned (.int .i64 (putE N lx)) ∧ ∃ vx', Four W w' N ab ac bb bc xb yb vx' vy la lb (putL N lx s) ly :=
  (rput_any _ _ _ _ _ s w h.x h.kept.size hl).mono fun _ _ ⟨he, v', x', g, k⟩ => ⟨he, v', h.stepX k x' g⟩
theorem Four.put_y (h : Four W w N ab ac bb bc xb yb vx vy la lb lx ly) (s : ByteArray) (hl : ly.length ≤ 1000) :
    Calls Try.prog 12 #[.pointer (some ⟨yb, 0, none⟩), .string s] w fun e w' => e = .returned (.int .i64 (putE 3 ly)) ∧ ∃ vy', Four W w' N ab ac bb bc xb yb vx vy' la lb lx (putL 3 ly s) :=
  (rput_any _ _ _ _ _ s w h.y h.kept.size hl).mono fun _ _ ⟨he, v', y', g, k⟩ => ⟨he, v', h.stepY k y' g⟩
theorem Four.take_a (h : Four W w N ab ac bb bc xb yb vx vy la lb lx ly) :
    Calls Try.prog 13 #[.pointer (some ⟨ab, 0, none⟩)] w fun e w' => e = .returned (tells la) ∧ Four W w' N ab ac bb bc xb yb vx vy la.tail lb lx ly :=
  (take_any _ _ _ _ w h.a).mono fun _ _ ⟨he, a', k⟩ => ⟨he, h.stepA k a'⟩
theorem Four.take_x (h : Four W w N ab ac bb bc xb yb vx vy la lb lx ly) :
    Calls Try.prog 14 #[.pointer (some ⟨xb, 0, none⟩)] w fun e w' => e = .returned (tells lx) ∧ ∃ vx', Four W w' N ab ac bb bc xb yb vx' vy la lb lx.tail ly :=
  (rtake_any _ _ _ _ _ w h.x).mono fun _ _ ⟨he, v', x', g, k⟩ => ⟨he, v', h.stepX k x' g⟩
theorem Four.first_a (h : Four W w N ab ac bb bc xb yb vx vy la lb lx ly) :
    Calls Try.prog 15 #[.pointer (some ⟨ab, 0, none⟩)] w fun e w' => e = .returned (tells la) ∧ Four W w' N ab ac bb bc xb yb vx vy la lb lx ly :=
  (first_any _ _ _ _ w h.a).mono fun _ _ ⟨he, a', k⟩ => ⟨he, h.stepA k a'⟩
theorem Four.first_x (h : Four W w N ab ac bb bc xb yb vx vy la lb lx ly) :
    Calls Try.prog 16 #[.pointer (some ⟨xb, 0, none⟩)] w fun e w' => e = .returned (tells lx) ∧ Four W w' N ab ac bb bc xb yb vx vy la lb lx ly :=
  (rfirst_any' _ _ _ _ _ w h.x).mono fun _ _ ⟨he, k⟩ => ⟨he, h.still k⟩
theorem Four.all_a (h : Four W w N ab ac bb bc xb yb vx vy la lb lx ly) :
    Calls Try.prog 18 #[.pointer (some ⟨ab, 0, none⟩)] w fun e w' => ∃ v, e = .returned v ∧ OffS w' W.heap.size v (txs la) ∧ Four W w' N ab ac bb bc xb yb vx vy [] lb lx ly :=
  (all_any _ _ _ _ w h.a).mono fun _ _ ⟨v, he, o, a', k⟩ => ⟨v, he, o.off.mono h.kept.size, h.stepA k a'⟩
theorem Four.all_x (h : Four W w N ab ac bb bc xb yb vx vy la lb lx ly) {u : Value} {xs : List (List UInt8)} (o : OffS w W.heap.size u xs) :
    Calls Try.prog 19 #[.pointer (some ⟨xb, 0, none⟩)] w fun e w' => ∃ v, e = .returned v ∧ OffS w' W.heap.size v (txs lx) ∧ OffS w' W.heap.size u xs ∧ ∃ vx', Four W w' N ab ac bb bc xb yb vx' vy la lb [] ly :=
  (rall_any _ _ _ _ _ w h.x).mono fun _ _ ⟨he, x', o', k⟩ => ⟨vx, he, o', o.rb h.x k, _, h.stepX (k.mono fun i _ e => .inl e) x' (.inr fun i e => by cases e)⟩
theorem Four.turn (h : Four W w N ab ac bb bc xb yb vx vy la lb lx ly) (g cp : Nat) (z : Int) (hg : Two w g ab bb) :
    Calls Try.prog 22 #[.slice (some ⟨g, 0, none⟩) 2 cp, .int .i64 z] w fun e w' => e = .returned (tw z la lb).val ∧ Four W w' N ab ac bb bc xb yb vx vy (tw z la lb).l (tw z la lb).l' lx ly ∧ ∀ (i : Nat) (cs : Array Value) (t : TypeId) (fz : Nat × Nat), w.heap[i]? = some (Obj.cells cs t fz) → w'.heap[i]? = some (Obj.cells cs t fz) :=
  (turn2 g cp ab ac N bb bc 3 la lb z w hg h.a h.b h.ne).mono fun _ w' ⟨he, a', b', k⟩ =>
    ⟨he, ⟨a', b', h.x.chan2 h.a.ch h.b.ch k, h.y.chan2 h.a.ch h.b.ch k, But.after h.kept k (fun i hi e => by have := h.la; have := h.lb; omega), h.ne, h.xy, h.ap, h.la, h.lb, h.lx, h.ly⟩, fun i cs t fz hi => k.at hi fun e => by
      obtain ⟨s, r, hd⟩ := h.a.ch
      obtain ⟨s', r', hd'⟩ := h.b.ch
      rcases e with e | e
      · rw [e, hd] at hi; cases hi
      · rw [e, hd'] at hi; cases hi⟩
theorem Four.rturn (h : Four W w N ab ac bb bc xb yb vx vy la lb lx ly) (g cp : Nat) (z : Int) (hg : RTwo w g xb yb) :
    Calls Try.prog 23 #[.slice (some ⟨g, 0, none⟩) 2 cp, .int .i64 z] w fun e w' => e = .returned (tw z lx ly).val ∧ ∃ vx' vy', Four W w' N ab ac bb bc xb yb vx' vy' la lb (tw z lx ly).l (tw z lx ly).l' := by
  refine (rturn2 W.heap.size g cp xb yb vx vy N (3 : Nat) lx ly z w hg h.x h.y h.xy).mono ?_
  rintro e w' ⟨he, u, u', x', y', hu, hu', k⟩
  have nb : ∀ {b c cap : Nat} {l : List ByteArray}, Bx w b c cap l → Bx w' b c cap l := fun {b c cap l} hb => by
    obtain ⟨s, r, hd⟩ := hb.ch
    refine ⟨k.at hb.blk fun e => ?_, hb.ch.but k fun e => ?_, hb.few, hb.room, hb.small⟩
    · rcases e with e | e
      · have := h.x.blk
        rw [← e, hb.blk] at this
        injection this with this
        injection this with _ ht
        exact absurd ht (by decide)
      · have := h.y.blk
        rw [← e, hb.blk] at this
        injection this with this
        injection this with _ ht
        exact absurd ht (by decide)
    · rcases e with e | e
      · have := h.x.blk; rw [← e, hd] at this; cases this
      · have := h.y.blk; rw [← e, hd] at this; cases this
  exact ⟨he, u, u', nb h.a, nb h.b, x', y', But.after h.kept k fun i hi e => by have := h.lx; have := h.ly; omega, h.ne, h.xy, fun i h1 h2 => h.ap i (hu ▸ h1) (hu' ▸ h2), h.la, h.lb, h.lx, h.ly⟩
theorem Four.copy_a (h : Four W w N ab ac bb bc xb yb vx vy la lb lx ly) :
    Calls Try.prog 20 #[.pointer (some ⟨ab, 0, none⟩)] w fun e w' => ∃ ab' ac', e = .returned (.pointer (some ⟨ab', 0, none⟩)) ∧ Four W w' N ab' ac' bb bc xb yb vx vy la lb lx ly ∧ Bx w' ab ac N la ∧ ac ≠ ac' ∧ bc ≠ ac := by
  refine (copy_any _ _ _ _ w h.a).mono ?_
  rintro e w' ⟨ab', ac', he, _, hc, a', o', k⟩
  have h1 := h.a.ch.lt
  have h2 := h.b.ch.lt
  have h3 := h.kept.size
  exact ⟨ab', ac', he, ⟨a', h.b.over h.a h.ne k, h.x.chan h.a.ch k, h.y.chan h.a.ch k, But.after h.kept k fun i hi e => by have := h.la; omega, by omega, h.xy, h.ap, by omega, h.lb, h.lx, h.ly⟩, o', by omega, h.ne⟩
theorem Four.copy_x (h : Four W w N ab ac bb bc xb yb vx vy la lb lx ly) (hl : lx.length ≤ 1000) :
    Calls Try.prog 21 #[.pointer (some ⟨xb, 0, none⟩)] w fun e w' => ∃ xb' vx', e = .returned (.pointer (some ⟨xb', 0, none⟩)) ∧ Four W w' N ab ac bb bc xb' yb vx' vy la lb lx ly ∧ Kept w w' := by
  refine (rcopy_any _ _ _ _ _ w h.x hl).mono ?_
  rintro e w' ⟨xb', vx', he, hb, x', k⟩
  have h1 := heap_lt h.y.blk
  have h3 := h.kept.size
  refine ⟨xb', vx', he, ⟨h.a.kept k, h.b.kept k, ⟨x'.blk, x'.row.mono h3⟩, h.y.kept k, h.kept.trans k, h.ne, by omega, fun i e1 e2 => ?_, h.la, h.lb, by omega, h.ly⟩, k⟩
  have g1 := (x'.row.blk e1).1
  obtain ⟨_, cur, hg⟩ := h.y.row.blk e2
  have := heap_lt hg
  omega
/-- what is done to another box changes none of them -/
theorem Four.other (h : Four W w N ab ac bb bc xb yb vx vy la lb lx ly) {ob oc cap : Nat} {lo : List ByteArray} (o : Bx w ob oc cap lo) (k : But (fun i => i = oc) w w') (h1 : oc ≠ ac) (h2 : bc ≠ oc) (h3 : W.heap.size ≤ oc) : Four W w' N ab ac bb bc xb yb vx vy la lb lx ly :=
  ⟨h.a.over o h1.symm k, h.b.over o h2 k, h.x.chan o.ch k, h.y.chan o.ch k, But.after h.kept k fun i hi e => by omega, h.ne, h.xy, h.ap, h.la, h.lb, h.lx, h.ly⟩
end
end Go.Proofs.Ytcachpcefeoolaa
