/-
  No cell of these rows narrows 'for every input' (looked for: loops, veiled, ifaces, maps, wideKeys, modest, calm, conditions, laid).
  DERIVED. THE GIVEN ROWS OF THIS SEAT. 8 by the template 'for every input the law returns true; each argument reads behind the call as it read before'; 0 by the template 'total and deterministic' (their statements: YtlgjnngacganmaaTotals.lean).
  GIVEN WITH THE SEED: the statements are not yours to turn. If you find one false, say at which input.
  Laid BY PROGRAM, IN A SANDBOX (cutbox-rows.mjs): the forced cells as the released guide's own fill.sh prints them over the translation e72ce8bdc4b7472f… (all of the seat's roots in one cut). By AI agents, Wed Nov 11 2026. No macro, syntax, notation, axiom, sorry.
-/
import Derived.Test.YtlgjnngacganmaaChecked
import GoSem.Claim
import GoSem.ClaimJoined
import GoSem.ClaimMapViews
import Derived.JoinedTies
import Derived.KernelRfl
namespace Go.Proofs.Ytlgjnngacganmaa
/- THE CELL 'sum', in the pinned program and in every row, IS THE sha256 OF THE DUMP (.gsa) THAT YtlgjnngacganmaaProg.lean LOADS. Nothing in Lean hashes anything: it is a label: what it is worth is what the hold of that sum in a sandbox is worth. -/
noncomputable def Try.pinned : Pinned := { name := "ytlgjnngacganmaa", sum := "e72ce8bdc4b7472f139d4bf164a34a5a4eb66741719053bda663bcf313ba65db", checked := Try.checked }
namespace Rows
def none {H : Type} : Left H := { results := [], args := [] }

/-- 'rivuletlaw03.TopicTells': WHATEVER THE INPUT: true; the input reads as it did. -/
def topicTellsSpec : ChangeSpec := { name := "topicTells", fn := fun _ => fun
  | [d1, d2] => { results := [.lit (.bool true)], args := [d1, d2] }
  | _ => none }
def topicTellsRow : OpenClaim := { program := "ytlgjnngacganmaa", sum := "e72ce8bdc4b7472f139d4bf164a34a5a4eb66741719053bda663bcf313ba65db", func := "rivulet/rivuletlaw03.TopicTells", spec := "topicTells", inPlace := ["internal/bytealg.IndexByteString", "internal/bytealg.IndexString"], unfollowed := true, recurses := true, named := ["internal/bytealg.MaxLen"], apart := false }
def TopicTellsSaid : Prop := topicTellsRow.holds Try.pinned (OpenSpec.ofChange topicTellsSpec)

/-- ITS FALSE NEIGHBOUR: 'it returns false'. Refute it at one input. -/
def topicTellsWrong : ChangeSpec := { name := "topicTells", fn := fun _ => fun
  | [d1, d2] => { results := [.lit (.bool false)], args := [d1, d2] }
  | _ => none }
def TopicTellsWrongFalsely : Prop := topicTellsRow.holds Try.pinned (OpenSpec.ofChange topicTellsWrong)

/-- 'rivuletlaw03.TopicLets': WHATEVER THE INPUT: true; the input reads as it did. -/
def topicLetsSpec : ChangeSpec := { name := "topicLets", fn := fun _ => fun
  | [d1, d2, d3] => { results := [.lit (.bool true)], args := [d1, d2, d3] }
  | _ => none }
def topicLetsRow : OpenClaim := { program := "ytlgjnngacganmaa", sum := "e72ce8bdc4b7472f139d4bf164a34a5a4eb66741719053bda663bcf313ba65db", func := "rivulet/rivuletlaw03.TopicLets", spec := "topicLets", inPlace := ["internal/bytealg.IndexByteString", "internal/bytealg.IndexString"], unfollowed := true, recurses := true, named := ["internal/bytealg.MaxLen"], apart := false }
def TopicLetsSaid : Prop := topicLetsRow.holds Try.pinned (OpenSpec.ofChange topicLetsSpec)

/-- ITS FALSE NEIGHBOUR: 'it returns false'. Refute it at one input. -/
def topicLetsWrong : ChangeSpec := { name := "topicLets", fn := fun _ => fun
  | [d1, d2, d3] => { results := [.lit (.bool false)], args := [d1, d2, d3] }
  | _ => none }
def TopicLetsWrongFalsely : Prop := topicLetsRow.holds Try.pinned (OpenSpec.ofChange topicLetsWrong)

/-- 'rivuletlaw03.TopicCovers': WHATEVER THE INPUT: true; the input reads as it did. -/
def topicCoversSpec : ChangeSpec := { name := "topicCovers", fn := fun _ => fun
  | [d1, d2] => { results := [.lit (.bool true)], args := [d1, d2] }
  | _ => none }
def topicCoversRow : OpenClaim := { program := "ytlgjnngacganmaa", sum := "e72ce8bdc4b7472f139d4bf164a34a5a4eb66741719053bda663bcf313ba65db", func := "rivulet/rivuletlaw03.TopicCovers", spec := "topicCovers", inPlace := ["internal/bytealg.IndexByteString", "internal/bytealg.IndexString"], unfollowed := true, recurses := true, named := ["internal/bytealg.MaxLen"], apart := false }
def TopicCoversSaid : Prop := topicCoversRow.holds Try.pinned (OpenSpec.ofChange topicCoversSpec)

/-- ITS FALSE NEIGHBOUR: 'it returns false'. Refute it at one input. -/
def topicCoversWrong : ChangeSpec := { name := "topicCovers", fn := fun _ => fun
  | [d1, d2] => { results := [.lit (.bool false)], args := [d1, d2] }
  | _ => none }
def TopicCoversWrongFalsely : Prop := topicCoversRow.holds Try.pinned (OpenSpec.ofChange topicCoversWrong)

/-- 'rivuletlaw03.TopicOrder': WHATEVER THE INPUT: true; the input reads as it did. -/
def topicOrderSpec : ChangeSpec := { name := "topicOrder", fn := fun _ => fun
  | [d1, d2, d3] => { results := [.lit (.bool true)], args := [d1, d2, d3] }
  | _ => none }
def topicOrderRow : OpenClaim := { program := "ytlgjnngacganmaa", sum := "e72ce8bdc4b7472f139d4bf164a34a5a4eb66741719053bda663bcf313ba65db", func := "rivulet/rivuletlaw03.TopicOrder", spec := "topicOrder", inPlace := ["internal/bytealg.IndexByteString", "internal/bytealg.IndexString"], unfollowed := true, recurses := true, named := ["internal/bytealg.MaxLen"], apart := false }
def TopicOrderSaid : Prop := topicOrderRow.holds Try.pinned (OpenSpec.ofChange topicOrderSpec)

/-- ITS FALSE NEIGHBOUR: 'it returns false'. Refute it at one input. -/
def topicOrderWrong : ChangeSpec := { name := "topicOrder", fn := fun _ => fun
  | [d1, d2, d3] => { results := [.lit (.bool false)], args := [d1, d2, d3] }
  | _ => none }
def TopicOrderWrongFalsely : Prop := topicOrderRow.holds Try.pinned (OpenSpec.ofChange topicOrderWrong)

/-- 'rivuletlaw03.TopicPlain': WHATEVER THE INPUT: true; the input reads as it did. -/
def topicPlainSpec : ChangeSpec := { name := "topicPlain", fn := fun _ => fun
  | [d1, d2] => { results := [.lit (.bool true)], args := [d1, d2] }
  | _ => none }
def topicPlainRow : OpenClaim := { program := "ytlgjnngacganmaa", sum := "e72ce8bdc4b7472f139d4bf164a34a5a4eb66741719053bda663bcf313ba65db", func := "rivulet/rivuletlaw03.TopicPlain", spec := "topicPlain", inPlace := ["internal/bytealg.IndexByteString", "internal/bytealg.IndexString"], unfollowed := true, recurses := true, named := ["internal/bytealg.MaxLen"], apart := false }
def TopicPlainSaid : Prop := topicPlainRow.holds Try.pinned (OpenSpec.ofChange topicPlainSpec)

/-- ITS FALSE NEIGHBOUR: 'it returns false'. Refute it at one input. -/
def topicPlainWrong : ChangeSpec := { name := "topicPlain", fn := fun _ => fun
  | [d1, d2] => { results := [.lit (.bool false)], args := [d1, d2] }
  | _ => none }
def TopicPlainWrongFalsely : Prop := topicPlainRow.holds Try.pinned (OpenSpec.ofChange topicPlainWrong)

/-- 'rivuletlaw03.TopicLess': WHATEVER THE INPUT: true; the input reads as it did. -/
def topicLessSpec : ChangeSpec := { name := "topicLess", fn := fun _ => fun
  | [d1, d2, d3] => { results := [.lit (.bool true)], args := [d1, d2, d3] }
  | _ => none }
def topicLessRow : OpenClaim := { program := "ytlgjnngacganmaa", sum := "e72ce8bdc4b7472f139d4bf164a34a5a4eb66741719053bda663bcf313ba65db", func := "rivulet/rivuletlaw03.TopicLess", spec := "topicLess", inPlace := ["internal/bytealg.IndexByteString", "internal/bytealg.IndexString"], unfollowed := true, recurses := true, named := ["internal/bytealg.MaxLen"], apart := false }
def TopicLessSaid : Prop := topicLessRow.holds Try.pinned (OpenSpec.ofChange topicLessSpec)

/-- ITS FALSE NEIGHBOUR: 'it returns false'. Refute it at one input. -/
def topicLessWrong : ChangeSpec := { name := "topicLess", fn := fun _ => fun
  | [d1, d2, d3] => { results := [.lit (.bool false)], args := [d1, d2, d3] }
  | _ => none }
def TopicLessWrongFalsely : Prop := topicLessRow.holds Try.pinned (OpenSpec.ofChange topicLessWrong)

/-- 'rivuletlaw03.TopicWider': WHATEVER THE INPUT: true; the input reads as it did. -/
def topicWiderSpec : ChangeSpec := { name := "topicWider", fn := fun _ => fun
  | [d1, d2] => { results := [.lit (.bool true)], args := [d1, d2] }
  | _ => none }
def topicWiderRow : OpenClaim := { program := "ytlgjnngacganmaa", sum := "e72ce8bdc4b7472f139d4bf164a34a5a4eb66741719053bda663bcf313ba65db", func := "rivulet/rivuletlaw03.TopicWider", spec := "topicWider", inPlace := ["internal/bytealg.IndexByteString", "internal/bytealg.IndexString"], unfollowed := true, recurses := true, named := ["internal/bytealg.MaxLen"], apart := false }
def TopicWiderSaid : Prop := topicWiderRow.holds Try.pinned (OpenSpec.ofChange topicWiderSpec)

/-- ITS FALSE NEIGHBOUR: 'it returns false'. Refute it at one input. -/
def topicWiderWrong : ChangeSpec := { name := "topicWider", fn := fun _ => fun
  | [d1, d2] => { results := [.lit (.bool false)], args := [d1, d2] }
  | _ => none }
def TopicWiderWrongFalsely : Prop := topicWiderRow.holds Try.pinned (OpenSpec.ofChange topicWiderWrong)

/-- 'rivuletlaw03.TopicRest': WHATEVER THE INPUT: true; the input reads as it did. -/
def topicRestSpec : ChangeSpec := { name := "topicRest", fn := fun _ => fun
  | [d1, d2] => { results := [.lit (.bool true)], args := [d1, d2] }
  | _ => none }
def topicRestRow : OpenClaim := { program := "ytlgjnngacganmaa", sum := "e72ce8bdc4b7472f139d4bf164a34a5a4eb66741719053bda663bcf313ba65db", func := "rivulet/rivuletlaw03.TopicRest", spec := "topicRest", inPlace := ["internal/bytealg.IndexByteString", "internal/bytealg.IndexString"], unfollowed := true, recurses := true, named := ["internal/bytealg.MaxLen"], apart := false }
def TopicRestSaid : Prop := topicRestRow.holds Try.pinned (OpenSpec.ofChange topicRestSpec)

/-- ITS FALSE NEIGHBOUR: 'it returns false'. Refute it at one input. -/
def topicRestWrong : ChangeSpec := { name := "topicRest", fn := fun _ => fun
  | [d1, d2] => { results := [.lit (.bool false)], args := [d1, d2] }
  | _ => none }
def TopicRestWrongFalsely : Prop := topicRestRow.holds Try.pinned (OpenSpec.ofChange topicRestWrong)

/- THE SECOND FORM. 'bulk': how many values and letters a reading holds, each counted each time it is reached (what is shared counts as often as it is met; a slice's spare places count too). A statement '..UptoSaid' is the law's where the arguments, and the package variables that the reading takes, are together of bulk at most 1048576: NARROWER than '..Said'. Prove '..Said' where nothing that the law and all that it calls make is longer than what came in: it says more and counts as full. Else prove '..UptoSaid'. A law counts once. -/
mutual
def uptoBulk {H : Type} : DataW H → Nat
  | .lit (.string bytes) => bytes.length + 1
  | .lit _ => 1
  | .nil => 1
  | .ptr d => uptoBulk d + 1
  | .slice elems spare => uptoBulkAll elems + uptoBulkAll spare + 1
  | .agg parts => uptoBulkAll parts + 1
  | .iface _ d => uptoBulk d + 1
  | .map entries => uptoBulkEntries entries + 1
  | .held _ => 1
def uptoBulkAll {H : Type} : List (DataW H) → Nat
  | [] => 0
  | d :: r => uptoBulk d + uptoBulkAll r
def uptoBulkEntries {H : Type} : List (Lit × DataW H) → Nat
  | [] => 0
  | x :: r => uptoBulkEntry x + uptoBulkEntries r
def uptoBulkEntry {H : Type} : Lit × DataW H → Nat
  | (.string bytes, d) => bytes.length + uptoBulk d + 1
  | (_, d) => uptoBulk d + 1
 end
def uptoSmall : (H : Type) → List (DataW H) → Bool := fun _ ds => decide (uptoBulkAll ds ≤ 1048576)
def OpenSpec.upto (s : _root_.Go.ChangeSpec) : _root_.Go.OpenSpec := { _root_.Go.OpenSpec.ofChange s with cond := some uptoSmall }

/-- 'rivuletlaw03.TopicTells', WHERE WHAT IT READS IS OF BULK AT MOST 1048576: true; the input reads as it did. -/
def topicTellsUptoRow : OpenClaim := { program := "ytlgjnngacganmaa", sum := "e72ce8bdc4b7472f139d4bf164a34a5a4eb66741719053bda663bcf313ba65db", func := "rivulet/rivuletlaw03.TopicTells", spec := "topicTells", inPlace := ["internal/bytealg.IndexByteString", "internal/bytealg.IndexString"], unfollowed := true, recurses := true, named := ["internal/bytealg.MaxLen"], apart := false, narrowed := true }
def TopicTellsUptoSaid : Prop := topicTellsUptoRow.holds Try.pinned (OpenSpec.upto topicTellsSpec)

/-- 'rivuletlaw03.TopicLets', WHERE WHAT IT READS IS OF BULK AT MOST 1048576: true; the input reads as it did. -/
def topicLetsUptoRow : OpenClaim := { program := "ytlgjnngacganmaa", sum := "e72ce8bdc4b7472f139d4bf164a34a5a4eb66741719053bda663bcf313ba65db", func := "rivulet/rivuletlaw03.TopicLets", spec := "topicLets", inPlace := ["internal/bytealg.IndexByteString", "internal/bytealg.IndexString"], unfollowed := true, recurses := true, named := ["internal/bytealg.MaxLen"], apart := false, narrowed := true }
def TopicLetsUptoSaid : Prop := topicLetsUptoRow.holds Try.pinned (OpenSpec.upto topicLetsSpec)

/-- 'rivuletlaw03.TopicCovers', WHERE WHAT IT READS IS OF BULK AT MOST 1048576: true; the input reads as it did. -/
def topicCoversUptoRow : OpenClaim := { program := "ytlgjnngacganmaa", sum := "e72ce8bdc4b7472f139d4bf164a34a5a4eb66741719053bda663bcf313ba65db", func := "rivulet/rivuletlaw03.TopicCovers", spec := "topicCovers", inPlace := ["internal/bytealg.IndexByteString", "internal/bytealg.IndexString"], unfollowed := true, recurses := true, named := ["internal/bytealg.MaxLen"], apart := false, narrowed := true }
def TopicCoversUptoSaid : Prop := topicCoversUptoRow.holds Try.pinned (OpenSpec.upto topicCoversSpec)

/-- 'rivuletlaw03.TopicOrder', WHERE WHAT IT READS IS OF BULK AT MOST 1048576: true; the input reads as it did. -/
def topicOrderUptoRow : OpenClaim := { program := "ytlgjnngacganmaa", sum := "e72ce8bdc4b7472f139d4bf164a34a5a4eb66741719053bda663bcf313ba65db", func := "rivulet/rivuletlaw03.TopicOrder", spec := "topicOrder", inPlace := ["internal/bytealg.IndexByteString", "internal/bytealg.IndexString"], unfollowed := true, recurses := true, named := ["internal/bytealg.MaxLen"], apart := false, narrowed := true }
def TopicOrderUptoSaid : Prop := topicOrderUptoRow.holds Try.pinned (OpenSpec.upto topicOrderSpec)

/-- 'rivuletlaw03.TopicPlain', WHERE WHAT IT READS IS OF BULK AT MOST 1048576: true; the input reads as it did. -/
def topicPlainUptoRow : OpenClaim := { program := "ytlgjnngacganmaa", sum := "e72ce8bdc4b7472f139d4bf164a34a5a4eb66741719053bda663bcf313ba65db", func := "rivulet/rivuletlaw03.TopicPlain", spec := "topicPlain", inPlace := ["internal/bytealg.IndexByteString", "internal/bytealg.IndexString"], unfollowed := true, recurses := true, named := ["internal/bytealg.MaxLen"], apart := false, narrowed := true }
def TopicPlainUptoSaid : Prop := topicPlainUptoRow.holds Try.pinned (OpenSpec.upto topicPlainSpec)

/-- 'rivuletlaw03.TopicLess', WHERE WHAT IT READS IS OF BULK AT MOST 1048576: true; the input reads as it did. -/
def topicLessUptoRow : OpenClaim := { program := "ytlgjnngacganmaa", sum := "e72ce8bdc4b7472f139d4bf164a34a5a4eb66741719053bda663bcf313ba65db", func := "rivulet/rivuletlaw03.TopicLess", spec := "topicLess", inPlace := ["internal/bytealg.IndexByteString", "internal/bytealg.IndexString"], unfollowed := true, recurses := true, named := ["internal/bytealg.MaxLen"], apart := false, narrowed := true }
def TopicLessUptoSaid : Prop := topicLessUptoRow.holds Try.pinned (OpenSpec.upto topicLessSpec)

/-- 'rivuletlaw03.TopicWider', WHERE WHAT IT READS IS OF BULK AT MOST 1048576: true; the input reads as it did. -/
def topicWiderUptoRow : OpenClaim := { program := "ytlgjnngacganmaa", sum := "e72ce8bdc4b7472f139d4bf164a34a5a4eb66741719053bda663bcf313ba65db", func := "rivulet/rivuletlaw03.TopicWider", spec := "topicWider", inPlace := ["internal/bytealg.IndexByteString", "internal/bytealg.IndexString"], unfollowed := true, recurses := true, named := ["internal/bytealg.MaxLen"], apart := false, narrowed := true }
def TopicWiderUptoSaid : Prop := topicWiderUptoRow.holds Try.pinned (OpenSpec.upto topicWiderSpec)

/-- 'rivuletlaw03.TopicRest', WHERE WHAT IT READS IS OF BULK AT MOST 1048576: true; the input reads as it did. -/
def topicRestUptoRow : OpenClaim := { program := "ytlgjnngacganmaa", sum := "e72ce8bdc4b7472f139d4bf164a34a5a4eb66741719053bda663bcf313ba65db", func := "rivulet/rivuletlaw03.TopicRest", spec := "topicRest", inPlace := ["internal/bytealg.IndexByteString", "internal/bytealg.IndexString"], unfollowed := true, recurses := true, named := ["internal/bytealg.MaxLen"], apart := false, narrowed := true }
def TopicRestUptoSaid : Prop := topicRestUptoRow.holds Try.pinned (OpenSpec.upto topicRestSpec)

end Rows
end Go.Proofs.Ytlgjnngacganmaa
