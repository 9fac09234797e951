/-
  No step of the machine takes back a draw: the count of draws behind a call is at least what it was ahead of it.
-/
import Derived.Calls
import Derived.RunT
namespace Go.Proofs.Ytlpkeimcklhdbaa
open Go

def GLe (d : Nat) : GStep → Prop
  | .go _ w _ => d ≤ w.drawn
  | .comm _ _ _ _ w _ => d ≤ w.drawn
  | .spawn _ _ w _ => d ≤ w.drawn
  | .count _ w _ => d ≤ w.drawn
  | .timer _ _ w _ => d ≤ w.drawn
  | .alone _ _ w _ => d ≤ w.drawn
  | .newcoro _ _ _ w _ => d ≤ w.drawn
  | .coroswitch _ _ _ w _ => d ≤ w.drawn
  | .collect _ w _ => d ≤ w.drawn
  | .watch _ w _ => d ≤ w.drawn
  | .ended _ _ _ => True

def SLe (d : Nat) : Stepped → Prop
  | .next m => d ≤ m.world.drawn
  | .ended _ _ => True

def RLe {α : Type} (d : Nat) : Result α → Prop
  | .ok _ w => d ≤ w.drawn
  | .halt _ w => d ≤ w.drawn

theorem ask_le {α : Type} (a : Ask α) (w : World) : w.drawn ≤ (w.ask a).2.drawn := by
  induction a generalizing w with
  | done a => exact Nat.le_refl _
  | ask what range k ih =>
    unfold World.ask
    dsimp only
    split
    · exact ih _ _
    · exact Nat.le_trans (Nat.le_succ _) (ih _ { w with drawn := w.drawn + 1 })

theorem sys_le (w : World) (c : Sys) : w.drawn ≤ (w.sys c).2.drawn := by
  have h := ask_le (Kernel.perform c w.os) w
  unfold World.sys
  split
  · exact Nat.le_refl _
  · rename_i r os w' he
    rw [he] at h
    exact h

theorem viewStore_drawn {p : Program} {w w' : World} {at_ : Addr} {u : TypeId} {a : Addr} {v : Value} {atomic : Bool} {l : List Addr} (h : w.viewStore p at_ u a v atomic = .ok (w', l)) : w'.drawn = w.drawn := by
  unfold World.viewStore at h
  simp only [bind, Except.bind, pure, Except.pure] at h
  repeat' split at h
  all_goals first | cases h | skip
  all_goals rfl

theorem RLe.mono {α : Type} {d d' : Nat} (h : d ≤ d') {r : Result α} (k : RLe d' r) : RLe d r := by
  cases r with
  | ok a w => exact Nat.le_trans h k
  | halt a w => exact Nat.le_trans h k
theorem GLe.mono {d d' : Nat} (h : d ≤ d') {r : GStep} (k : GLe d' r) : GLe d r := by
  cases r <;> first | exact Nat.le_trans h k | trivial
theorem SLe.mono {d d' : Nat} (h : d ≤ d') {r : Stepped} (k : SLe d' r) : SLe d r := by
  cases r <;> first | exact Nat.le_trans h k | trivial
theorem GLe.after {d : Nat} {es : Array Event} {s : GStep} (h : GLe d s) : GLe d (GStep.after es s) := by cases s <;> exact h

theorem GLe.ite {d : Nat} {c : Prop} [Decidable c] {a b : GStep} (ha : GLe d a) (hb : GLe d b) : GLe d (if c then a else b) := by
  split
  · exact ha
  · exact hb
theorem GLe.elim {α : Type} {d : Nat} {o : Option α} {a : GStep} {f : α → GStep} (ha : GLe d a) (hf : ∀ x, GLe d (f x)) : GLe d (o.elim a f) := by
  cases o with
  | none => exact ha
  | some x => exact hf x
theorem SLe.ite {d : Nat} {c : Prop} [Decidable c] {a b : Stepped} (ha : SLe d a) (hb : SLe d b) : SLe d (if c then a else b) := by
  split
  · exact ha
  · exact hb

theorem freeze_le (w : World) (a : Addr) (n : Nat) : w.drawn ≤ (w.freeze a n).drawn := by
  unfold World.freeze
  repeat' split
  all_goals exact Nat.le_refl _

theorem run_le {α : Type} (p : Program) (s : Sem α) (w : World) : RLe w.drawn (s.run p w) := by
  induction s generalizing w with
  | pure a => exact Nat.le_refl _
  | load m a k ih =>
    unfold Sem.run
    split
    · exact ih _ _
    · split
      · exact ih _ _
      · exact Nat.le_refl _
  | store m a v k ih =>
    have key : ∀ hl : Halt, RLe w.drawn (match w.cell? a with
      | some _ => if w.frozen? a then .halt hl w else k.run p (w.setCell a v)
      | none => match w.farStore p a v (m == .atomic) with
        | .ok (w, _) => k.run p w
        | .error h => .halt h w) := by
      intro hl
      split
      · split
        · exact Nat.le_refl _
        · exact ih (w.setCell a v)
      · split
        · rename_i w' l he
          refine RLe.mono ?_ (ih w')
          unfold World.farStore at he
          split at he
          · split at he
            · cases he
              rename_i hv
              rw [viewStore_drawn hv]
              exact Nat.le_refl _
            · cases he
          · cases he
        · exact Nat.le_refl _
    cases v <;> first | exact key _ | exact Nat.le_refl _
  | new o k ih => exact ih _ _
  | shape r k ih => exact ih _ _
  | freeze a n k ih => exact RLe.mono (freeze_le w a n) (ih (w.freeze a n))
  | frozen a k ih => exact ih _ _
  | getObj r k ih =>
    unfold Sem.run
    split
    · exact Nat.le_refl _
    · exact ih _ _
    · exact Nat.le_refl _
  | setObj r o k ih =>
    unfold Sem.run
    split
    · exact Nat.le_refl _
    · exact ih { w with heap := w.heap.setIfInBounds r o }
    · exact Nat.le_refl _
  | choose q k ih =>
    unfold Sem.run
    split
    · exact ih _ _
    · exact RLe.mono (Nat.le_succ _) (ih _ { w with drawn := w.drawn + 1 })
  | sys c k ih => exact RLe.mono (sys_le w c) (ih _ _)
  | program k ih => exact ih _ _
  | mark m k ih => exact ih _
  | halt h => exact Nat.le_refl _

theorem runT_le {α : Type} (p : Program) (s : Sem α) (w : World) (es : Array Event) : RLe w.drawn (s.runT p w es).1 := by
  rw [Sem.runT_fst]; exact run_le p s w
theorem run_ok {α : Type} {p : Program} {s : Sem α} {w w' : World} {a : α} (h : s.run p w = .ok a w') : w.drawn ≤ w'.drawn := by have := run_le p s w; rw [h] at this; exact this
theorem run_halt {α : Type} {p : Program} {s : Sem α} {w w' : World} {a : Halt} (h : s.run p w = .halt a w') : w.drawn ≤ w'.drawn := by have := run_le p s w; rw [h] at this; exact this
theorem runT_ok {α : Type} {p : Program} {s : Sem α} {w w' : World} {a : α} {es es' : Array Event} (h : s.runT p w es = (.ok a w', es')) : w.drawn ≤ w'.drawn := by have := runT_le p s w es; rw [h] at this; exact this
theorem runT_halt {α : Type} {p : Program} {s : Sem α} {w w' : World} {a : Halt} {es es' : Array Event} (h : s.runT p w es = (.halt a w', es')) : w.drawn ≤ w'.drawn := by have := runT_le p s w es; rw [h] at this; exact this

theorem fst_ok {α : Type} {p : Program} {s : Sem α} {w w' : World} {a : α} {es : Array Event} (h : (s.runT p w es).1 = .ok a w') : w.drawn ≤ w'.drawn := by have := runT_le p s w es; rw [h] at this; exact this
theorem fst_halt {α : Type} {p : Program} {s : Sem α} {w w' : World} {a : Halt} {es : Array Event} (h : (s.runT p w es).1 = .halt a w') : w.drawn ≤ w'.drawn := by have := runT_le p s w es; rw [h] at this; exact this

theorem endWith_le (w : World) (fd : Nat) (text : ByteArray) (o : Outcome) : GLe w.drawn (endWith w fd text o) := by
  unfold endWith
  dsimp only
  repeat' split
  all_goals trivial
theorem dieOf_le (fr : Frame) (ahead : List ByteArray) (m : String) (whole : Bool) (w : World) : GLe w.drawn (dieOf fr ahead m whole w) := Nat.le_refl _
theorem endThrow_le (fr : Frame) (m : String) (w : World) : GLe w.drawn (endThrow fr m w) := dieOf_le _ _ _ _ _
theorem throw_go {fr : Frame} {m : String} {w w' : World} {g : Goroutine} {es : Array Event} (h : endThrow fr m w = .go g w' es) : w.drawn ≤ w'.drawn := by
  have := endThrow_le fr m w
  rw [h] at this
  exact this
theorem endPrinting_le (p : Program) (fr : Frame) (v : Value) (w : World) : GLe w.drawn (endPrinting p fr v w) := by
  unfold endPrinting
  dsimp only
  split
  · exact endThrow_le _ _ _
  · trivial
theorem endFatal_le (p : Program) (fr : Frame) (callers : List Frame) (dying : Option Dying) (m : String) (w : World) : GLe w.drawn (endFatal p fr callers dying m w) := by
  unfold endFatal
  dsimp only
  split
  · rename_i h; exact GLe.mono (run_ok h) (dieOf_le _ _ _ _ _)
  · trivial
  · trivial
theorem writeOn_le (p : Program) (fr : Frame) (d : Dying) (f : Fatal) (w : World) : GLe w.drawn (writeOn p fr d f w) := by
  unfold writeOn
  dsimp only
  split
  · trivial
  · split
    · rename_i h; exact runT_ok h
    · rename_i h; exact runT_halt h
    · trivial
    · trivial
theorem die_le (p : Program) (fr : Frame) (d : Dying) (w : World) : GLe w.drawn (die p fr d w) := by
  unfold die
  dsimp only
  split
  · exact writeOn_le _ _ _ _ _
  · split
    · split
      · exact Nat.le_refl _
      · exact endWith_le _ _ _ _
    · split
      · exact Nat.le_refl _
      · split
        · rename_i h; exact run_ok h
        · trivial
      · refine GLe.after ?_
        have h := runT_le p (invoke (.fn (.method ‹_›) #[]) #[.iface ‹_› ‹_›]) w #[]
        split
        · rename_i h'; rw [h'] at h; exact h
        · rename_i h'; rw [h'] at h; exact h
        · trivial
        · rename_i h'; rw [h'] at h; exact GLe.mono h (endPrinting_le _ _ _ _)
        · trivial
      · trivial
theorem early_le (p : Program) (fr : Frame) (callers : List Frame) (dying : Option Dying) (g : Nat) (w : World) : GLe w.drawn (early p fr callers dying g w) := by
  have hn : ∀ (o : Outcome) (w' : World), w.drawn ≤ w'.drawn → GLe w.drawn (match w'.heap[g]? with
    | some (.pending c elem) =>
      .go { frame := fr, callers, status := .running, dying } { w' with heap := w'.heap.setIfInBounds g (.cells c elem) }
    | _ => .ended o w') := by
    intro o w' h
    split
    · exact h
    · trivial
  unfold early
  dsimp only
  split
  · exact hn _ _ (Nat.le_refl _)
  · split
    · trivial
    · split
      · exact hn _ _ (Nat.le_refl _)
      · split
        · exact hn _ _ (Nat.le_refl _)
        · split
          · trivial
          · exact Nat.le_refl _
          · trivial
          · exact hn _ _ (Nat.le_refl _)
          · split
            · exact Nat.le_refl _
            · split
              · exact hn _ _ (Nat.le_refl _)
              · split
                · rename_i h; exact hn _ _ (run_ok h)
                · rename_i h; exact run_ok h
                · trivial
theorem doReturn_le (p : Program) (main : Bool) (fr : Frame) (callers : List Frame) (dying : Option Dying) (v : Value) (w : World) : GLe w.drawn (doReturn p main fr callers dying v w) := by
  unfold doReturn
  dsimp only
  repeat' split
  all_goals first | exact Nat.le_refl _ | trivial
theorem callDeferred_le (p : Program) (fr : Frame) (callers : List Frame) (dying : Option Dying) (d : Deferred) (w : World) : GLe w.drawn (callDeferred p fr callers dying d w) := by
  unfold callDeferred
  dsimp only
  refine GLe.ite trivial (GLe.after ?_)
  have h := runT_le p (invoke d.target d.args) w #[]
  split <;> rename_i h' <;> rw [h'] at h <;> first | exact h | exact GLe.mono h (endFatal_le _ _ _ _ _ _) | exact GLe.mono h (endThrow_le _ _ _) | trivial | (split <;> exact h)
theorem unwind_le (p : Program) (main : Bool) (fr : Frame) (callers : List Frame) (dying : Option Dying) (w : World) : GLe w.drawn (unwind p main fr callers dying w) := by
  unfold unwind
  split
  · rename_i block _ _ _
    refine GLe.after ?_
    have h := runT_le p (Instr.takeDeferred block) w #[]
    split <;> rename_i h' <;> rw [h'] at h <;> first | exact h | trivial
  · exact callDeferred_le _ _ _ _ _ _
  · split
    · trivial
    · split
      · trivial
      · split
        · exact Nat.le_refl _
        · split
          · split
            · exact Nat.le_refl _
            · split
              · rename_i h; exact run_ok h
              · trivial
              · trivial
          · split
            · exact endPrinting_le _ _ _ _
            · trivial
    · split
      · exact doReturn_le _ _ _ _ _ _ _
      · rename_i fn _
        refine GLe.after ?_
        have h := runT_le p (results fn fr.tmps) w #[]
        split <;> rename_i h' <;> rw [h'] at h <;> first | exact GLe.mono h (doReturn_le _ _ _ _ _ _ _) | trivial

theorem apply_le (p : Program) (listen : Bool) (fr : Frame) (callers : List Frame) (dying : Option Dying) (s : Sem Next) (w : World) : GLe w.drawn (stepG.apply p listen fr callers dying s w) := by
  unfold stepG.apply
  dsimp only
  refine GLe.after ?_
  have h : RLe w.drawn (if listen = true then s.runT p w #[] else (s.run p w, #[])).1 := by
    split
    · exact runT_le _ _ _ _
    · exact run_le _ _ _
  split <;> rename_i h' <;> rw [h'] at h
  all_goals first | exact h | trivial | exact GLe.mono h (endFatal_le _ _ _ _ _ _) | exact GLe.mono h (endThrow_le _ _ _) | exact GLe.mono h (early_le _ _ _ _ _ _) | (split <;> exact h) | exact GLe.ite (GLe.mono h (endThrow_le _ _ _)) h

theorem oper_le (p : Program) (listen : Bool) (fr : Frame) (callers : List Frame) (dying : Option Dying) (w : World) : GLe w.drawn (stepG.oper p listen fr callers dying w) := by
  unfold stepG.oper
  split
  · trivial
  · split
    · exact apply_le _ _ _ _ _ _ _
    · exact apply_le _ _ _ _ _ _ _

theorem exec_le (p : Program) (main : Bool) (listen : Bool) (fr : Frame) (callers : List Frame) (dying : Option Dying) (w : World) : GLe w.drawn (stepG.exec p main listen fr callers dying w) := by
  have hl : ∀ (o1 : Outcome) (o2 : Outcome) (c : Prop) [Decidable c] (jump : Option Code), GLe w.drawn (match fr.roundOf with
      | none => if c then GStep.go { frame := { fr with mode := .returning }, callers, status := .running, dying } w else .ended o1 w
      | some l =>
        GStep.after (seen p fr.fn ((Instr.endRound l jump).runT p w #[]).2) <| match ((Instr.endRound l jump).runT p w #[]).1 with
        | .ok v w => doReturn p main fr callers dying v w
        | .halt _ w => .ended o2 w) := by
    intro o1 o2 c _ jump
    split
    · exact GLe.ite (Nat.le_refl _) trivial
    · rename_i l _
      refine GLe.after ?_
      have h := runT_le p (Instr.endRound l jump) w #[]
      split <;> rename_i h' <;> rw [h'] at h <;> first | exact GLe.mono h (doReturn_le _ _ _ _ _ _ _) | trivial
  unfold stepG.exec
  dsimp only
  split
  all_goals first | exact hl _ _ _ _ | exact Nat.le_refl _ | trivial | exact apply_le _ _ _ _ _ _ _ | exact GLe.elim (hl _ _ _ _) (fun _ => Nat.le_refl _) | exact GLe.elim trivial (fun _ => apply_le _ _ _ _ _ _ _) | exact GLe.ite (oper_le _ _ _ _ _ _) (Nat.le_refl _) | skip
  all_goals first
    | (refine GLe.after ?_; split <;> rename_i h' <;> first | exact GLe.mono (fst_ok h') (apply_le _ _ _ _ _ _ _) | trivial | exact fst_ok h' | exact fst_halt h')
    | (refine GLe.ite (Nat.le_refl _) ?_; split <;> rename_i h' <;> first | exact run_ok h' | trivial)
    | (split <;> first | exact Nat.le_refl _ | trivial)

theorem stepG_le (p : Program) (main : Bool) (g : Goroutine) (w : World) (listen : Bool) : GLe w.drawn (stepG p main g w listen) := by
  unfold stepG
  dsimp only
  split
  · exact die_le _ _ _ _
  · exact exec_le _ _ _ _ _ _ _
  · exact unwind_le _ _ _ _ _ _

theorem look_le (p : Program) (gs : Array Goroutine) (rest : Rest) (w : World) : SLe w.drawn (look p gs rest w) := by
  unfold look
  dsimp only
  split
  · refine SLe.ite trivial ?_
    split
    · trivial
    · split
      · rename_i h; have h0 := run_ok h; exact h0
      · trivial
      · trivial
  · trivial

theorem communicate_le (p : Program) (rest : Rest) (gs : Array Goroutine) (i : Nat) (g : Goroutine) (cases : Array CommCase) (blocking : Bool) (shape : CommShape) (w : World) :
    SLe w.drawn (communicate p rest gs i g cases blocking shape w).1 := by
  unfold communicate
  dsimp only
  split
  · trivial
  · split
    · split
      · split
        · rename_i w' h
          unfold waitingAt at h
          split at h
          · split at h
            · cases h; exact Nat.le_refl _
            · cases h
          · cases h; exact Nat.le_refl _
        · trivial
      · exact Nat.le_refl _
    · split
      · trivial
      · rename_i h
        have h0 := run_ok h
        split
        · split
          · rename_i h1; have h2 := run_halt h1; exact Nat.le_trans h0 h2
          · trivial
        · exact h0
        · exact h0
        · split
          · exact h0
          · split
            · rename_i h1; have h2 := run_ok h1; exact Nat.le_trans h0 h2
            · trivial
        · exact h0
        · exact h0
        · trivial

theorem serve_le (p : Program) (m : Machine) (k : Nat) : SLe m.world.drawn (serve p m k) := by
  unfold serve
  split
  · trivial
  · exact Nat.le_refl _
  · dsimp only
    split
    · trivial
    · exact Nat.le_refl _

theorem drain_le (w : World) (c : Nat) : w.drawn ≤ (drain w c).2.drawn := by
  unfold drain
  split <;> exact Nat.le_refl _
theorem retime_le (m : Machine) (k : Nat) (t : Timer) (when period : Nat) : m.world.drawn ≤ (retime m k t when period).2.world.drawn := by
  unfold retime
  dsimp only
  split
  · exact drain_le _ _
  · exact Nat.le_refl _
theorem named_le (m : Machine) (var : Addr) (f : Nat → Timer → Value × Machine) (v : Value) (m2 : Machine) (d : Nat) (hf : ∀ k t, d ≤ (f k t).2.world.drawn) (h : timerOp.named m var f = .ok (v, m2)) : d ≤ m2.world.drawn := by
  unfold timerOp.named at h
  split at h
  · have := hf ‹_› (m.rest.timers.getD ‹_› default)
    cases hx : f ‹_› (m.rest.timers.getD ‹_› default) with
    | mk a b => rw [hx] at h this; cases h; exact this
  · cases h
theorem timerOp_le (m : Machine) (op : TimerOp) (v : Value) (m2 : Machine) (h : timerOp m op = .ok (v, m2)) : m.world.drawn ≤ m2.world.drawn := by
  unfold timerOp at h
  split at h
  · split at h
    · cases h; exact Nat.le_refl _
    · split at h
      · split at h
        · cases h
        · cases h; exact Nat.le_refl _
      · cases h
  · exact named_le _ _ _ _ _ _ (fun k t => retime_le _ _ _ _ _) h
  · split at h
    · rename_i m1 h1
      have : m.world.drawn ≤ m1.world.drawn := by
        unfold timerOp.opened at h1
        split at h1
        · split at h1
          · cases h1; exact Nat.le_refl _
          · cases h1
        · cases h1; exact Nat.le_refl _
      exact named_le _ _ _ _ _ _ (fun k t => Nat.le_trans this (retime_le _ _ _ _ _)) h
    · cases h
  · cases h; exact Nat.le_refl _

theorem runT_step_le (p : Program) (m : Machine) (i : Nat) (listen : Bool) : SLe m.world.drawn (runT p m i listen).1 := by
  unfold runT
  dsimp only
  have h := stepG_le p (i == 0) (m.gs.swapAt! i { (default : Goroutine) with status := .finished }).1 m.world listen
  split <;> rename_i h' <;> rw [h'] at h
  · trivial
  · exact SLe.mono h (communicate_le _ _ _ _ _ _ _ _ _)
  · exact h
  · exact h
  · exact SLe.ite trivial h
  · exact h
  · exact SLe.mono h (look_le _ _ _ _)
  · exact h
  · exact h
  · split
    · exact h
    · split
      · rename_i h3; have h4 := throw_go h3; exact Nat.le_trans h h4
      · trivial
    · trivial
  · split
    · rename_i h3; have h4 := timerOp_le _ _ _ _ h3; exact Nat.le_trans h h4
    · rename_i msg _
      have h2 := endThrow_le ‹Goroutine›.frame msg ‹World›
      split
      · rename_i h3; rw [h3] at h2; exact Nat.le_trans h h2
      · trivial
    · trivial
    · trivial

def MLe (d : Nat) : Move → Prop
  | .goroutine m _ => d ≤ m.world.drawn
  | .machine s _ => SLe d s
theorem MLe.mono {d d' : Nat} (h : d ≤ d') {r : Move} (k : MLe d' r) : MLe d r := by
  cases r with
  | goroutine m i => exact Nat.le_trans h k
  | machine s o => exact SLe.mono h k

theorem askOn_le (p : Program) (m : Machine) : MLe m.world.drawn (askOn p m) := by
  have hp : ∀ (rs : List Nat) (m' : Machine), MLe m'.world.drawn (match (choose (.sched rs.length)).run p m'.world with
      | .halt _ w => .machine (.ended (.stuck "sched" "") w)
      | .ok k world =>
        if rs.length ≤ 1 then .goroutine { m' with world } (rs.getD k 0) else
        match (choose (.extern "sched.slice" 65536)).run p world with
        | .halt _ w => .machine (.ended (.stuck "sched.slice" "") w)
        | .ok n world => .goroutine { m' with world, rest := { m'.rest with slice := if n = 0 then none else some (rs.getD k 0, n) } } (rs.getD k 0)) := by
    intro rs m'
    split
    · trivial
    · rename_i h
      have h0 := run_ok h
      split
      · exact h0
      · split
        · trivial
        · rename_i h1; have h2 := run_ok h1; exact Nat.le_trans h0 h2
  unfold askOn
  dsimp only
  split
  · trivial
  · rename_i h
    have h0 := run_ok h
    split
    · exact SLe.mono h0 (serve_le _ _ _)
    · split
      · split
        · exact h0
        · split
          · exact h0
          · split
            · trivial
            · trivial
      · split
        · exact MLe.mono h0 (hp _ { m with world := ‹World› })
        · split
          · trivial
          · rename_i h1
            have h2 := run_ok h1
            exact MLe.mono (Nat.le_trans h0 h2) (hp _ { m with world := _ })
          · rename_i h1
            have h2 := run_ok h1
            exact Nat.le_trans h0 h2
          · rename_i h1
            have h2 := run_ok h1
            exact MLe.mono (Nat.le_trans h0 h2) (hp _ (Machine.advanceTo _ _))

theorem ask_le' (p : Program) (m : Machine) : MLe m.world.drawn (Go.ask p m) := by
  unfold Go.ask
  split
  · split
    · trivial
    · rename_i h
      have h0 := run_ok h
      have h1 := look_le p m.gs m.rest ‹World›
      split
      · rename_i h2
        rw [h2] at h1
        exact MLe.mono (Nat.le_trans h0 h1) (askOn_le _ _)
      · rename_i e _
        exact SLe.mono h0 (by first | exact h1 | (rename_i he; rw [← he]; exact h1))
    · rename_i h
      have h0 := run_ok h
      exact MLe.mono h0 (askOn_le _ _)
  · exact askOn_le _ _

theorem move_le (p : Program) (m : Machine) : MLe m.world.drawn (move p m) := by
  unfold move
  split
  · split
    · exact Nat.le_refl _
    · trivial
  · split
    · split
      · exact Nat.le_refl _
      · exact ask_le' p { m with rest := { m.rest with slice := none } }
    · exact ask_le' _ _

theorem step_le (p : Program) (m : Machine) : SLe m.world.drawn (step p m) := by
  unfold step stepT
  have h := move_le p m
  split
  · rename_i h'
    rw [h'] at h
    exact SLe.mono h (runT_step_le _ _ _ _)
  · rename_i h'
    rw [h'] at h
    exact h

theorem steps_le {P : Program} {m m' : Machine} (h : Steps P m m') : m.world.drawn ≤ m'.world.drawn := by
  obtain ⟨n, hn⟩ := h
  induction n generalizing m with
  | zero => cases hn; exact Nat.le_refl _
  | succ n ih =>
    unfold runN at hn
    split at hn
    · rename_i m1 h1
      have h2 := step_le P m
      rw [h1] at h2
      exact Nat.le_trans h2 (ih hn)
    · rename_i e he
      rw [hn] at he
      exact absurd rfl (he m')

/-- behind a call that returns there are at least as many draws as ahead of it -/
theorem Calls.draws {P : Program} {f : FuncId} {args : Array Value} {w : World} {R : Ending → World → Prop} (h : Calls P f args w R) :
    Calls P f args w fun e w' => R e w' ∧ ((∃ v, e = .returned v) → w.drawn ≤ w'.drawn) := by
  intro cs
  obtain ⟨e, w', fr, hr, hc, hf, hl⟩ := h cs
  refine ⟨e, w', fr, ⟨hr, ?_⟩, hc, hf, hl⟩
  rintro ⟨v, rfl⟩
  exact steps_le hc
end Go.Proofs.Ytlpkeimcklhdbaa
