/-
  NARROWER THAN 'FOR EVERY INPUT', by the rows' own cells (each row's printed sentence says how): WalDoes: laid · WalOpens: laid · WalRecovers: laid · WalAgain: laid · WalCuts: laid · WalChecks: laid.
  DERIVED. THE GIVEN ROWS OF THIS SEAT. 6 by the template 'for every input the law returns true; each argument reads behind the call as it read before'; 0 by the template 'total and deterministic' (their statements: YtenhncohhikllaaDoorTotals.lean).
  GIVEN WITH THE SEED: the statements are not yours to turn. If you find one false, say at which input.
  Laid BY PROGRAM, IN A SANDBOX (cutbox-rows.mjs): the forced cells as the released guide's own fill.sh prints them over the translation 4a185e4b0b50db9b… (all of the seat's roots in one cut). By AI agents, Wed Nov 11 2026. No macro, syntax, notation, axiom, sorry.
-/
import Derived.Test.YtenhncohhikllaaDoorChecked
import GoSem.Claim
import GoSem.ClaimJoined
import GoSem.ClaimMapViews
import Derived.JoinedTies
import Derived.KernelRfl
namespace Go.Proofs.YtenhncohhikllaaDoor
/- THE CELL 'sum', in the pinned program and in every row, IS THE sha256 OF THE DUMP (.gsa) THAT YtenhncohhikllaaDoorProg.lean LOADS. Nothing in Lean hashes anything: it is a label: what it is worth is what the hold of that sum in a sandbox is worth. -/
noncomputable def Tryd.pinned : Pinned := { name := "ytenhncohhikllaadoor", sum := "4a185e4b0b50db9b1fff3422786e5e0aa5714929eac1337017e27be1beb38c85", checked := Tryd.checked }
namespace Rows
def none {H : Type} : Left H := { results := [], args := [] }

/- WHAT THE LISTED PACKAGE-LEVEL VARIABLES READ AS WHEN THE CALL BEGINS. Each datum BY PROGRAM (the guide's laid-datum.mjs) off the statement by which the dump's own 'gosem.cut.vars' lays the variable. In a bare row this is a premise. The card (YtenhncohhikllaaDoorCards.lean) ties it to the program's text. -/
def laid_rivulet_varint_widths {H : Type} : DataW H := .agg [.agg [.lit (.int .u8 0), .lit (.int .u64 0), .lit (.int .u64 240)], .agg [.lit (.int .u8 241), .lit (.int .u64 240), .lit (.int .u64 2287)], .agg [.lit (.int .u8 249), .lit (.int .u64 2288), .lit (.int .u64 67823)], .agg [.lit (.int .u8 250), .lit (.int .u64 0), .lit (.int .u64 16777215)], .agg [.lit (.int .u8 251), .lit (.int .u64 0), .lit (.int .u64 4294967295)], .agg [.lit (.int .u8 252), .lit (.int .u64 0), .lit (.int .u64 1099511627775)], .agg [.lit (.int .u8 253), .lit (.int .u64 0), .lit (.int .u64 281474976710655)], .agg [.lit (.int .u8 254), .lit (.int .u64 0), .lit (.int .u64 72057594037927935)], .agg [.lit (.int .u8 255), .lit (.int .u64 0), .lit (.int .u64 18446744073709551615)]]

/-- 'rivuletlaw10.WalDoes': WHATEVER THE INPUT: true; the input reads as it did. -/
def walDoesSpec : ChangeSpec := { name := "walDoes", fn := fun _ => fun
  | [d] => { results := [.lit (.bool true)], args := [d] }
  | _ => none }
def walDoesRow : OpenClaim := { program := "ytenhncohhikllaadoor", sum := "4a185e4b0b50db9b1fff3422786e5e0aa5714929eac1337017e27be1beb38c85", func := "rivulet/rivuletlaw10.WalDoes", spec := "walDoes", inPlace := ["internal/abi.NoEscape"], unfollowed := true, recurses := true, named := ["rivulet/varint.widths"], apart := false, laid := [("rivulet/varint.widths", laid_rivulet_varint_widths)] }
def WalDoesSaid : Prop := walDoesRow.holds Tryd.pinned (OpenSpec.ofChange walDoesSpec)

/-- ITS FALSE NEIGHBOUR: 'it returns false'. Refute it at one input. -/
def walDoesWrong : ChangeSpec := { name := "walDoes", fn := fun _ => fun
  | [d] => { results := [.lit (.bool false)], args := [d] }
  | _ => none }
def WalDoesWrongFalsely : Prop := walDoesRow.holds Tryd.pinned (OpenSpec.ofChange walDoesWrong)

/-- 'rivuletlaw10.WalOpens': WHATEVER THE INPUT: true; the input reads as it did. -/
def walOpensSpec : ChangeSpec := { name := "walOpens", fn := fun _ => fun
  | [d1, d2] => { results := [.lit (.bool true)], args := [d1, d2] }
  | _ => none }
def walOpensRow : OpenClaim := { program := "ytenhncohhikllaadoor", sum := "4a185e4b0b50db9b1fff3422786e5e0aa5714929eac1337017e27be1beb38c85", func := "rivulet/rivuletlaw10.WalOpens", spec := "walOpens", inPlace := ["internal/abi.NoEscape"], unfollowed := true, recurses := true, named := ["rivulet/varint.widths"], apart := false, laid := [("rivulet/varint.widths", laid_rivulet_varint_widths)] }
def WalOpensSaid : Prop := walOpensRow.holds Tryd.pinned (OpenSpec.ofChange walOpensSpec)

/-- ITS FALSE NEIGHBOUR: 'it returns false'. Refute it at one input. -/
def walOpensWrong : ChangeSpec := { name := "walOpens", fn := fun _ => fun
  | [d1, d2] => { results := [.lit (.bool false)], args := [d1, d2] }
  | _ => none }
def WalOpensWrongFalsely : Prop := walOpensRow.holds Tryd.pinned (OpenSpec.ofChange walOpensWrong)

/-- 'rivuletlaw10.WalRecovers': WHATEVER THE INPUT: true; the input reads as it did. -/
def walRecoversSpec : ChangeSpec := { name := "walRecovers", fn := fun _ => fun
  | [d1, d2] => { results := [.lit (.bool true)], args := [d1, d2] }
  | _ => none }
def walRecoversRow : OpenClaim := { program := "ytenhncohhikllaadoor", sum := "4a185e4b0b50db9b1fff3422786e5e0aa5714929eac1337017e27be1beb38c85", func := "rivulet/rivuletlaw10.WalRecovers", spec := "walRecovers", inPlace := ["internal/abi.NoEscape"], unfollowed := true, recurses := true, named := ["rivulet/varint.widths"], apart := false, laid := [("rivulet/varint.widths", laid_rivulet_varint_widths)] }
def WalRecoversSaid : Prop := walRecoversRow.holds Tryd.pinned (OpenSpec.ofChange walRecoversSpec)

/-- ITS FALSE NEIGHBOUR: 'it returns false'. Refute it at one input. -/
def walRecoversWrong : ChangeSpec := { name := "walRecovers", fn := fun _ => fun
  | [d1, d2] => { results := [.lit (.bool false)], args := [d1, d2] }
  | _ => none }
def WalRecoversWrongFalsely : Prop := walRecoversRow.holds Tryd.pinned (OpenSpec.ofChange walRecoversWrong)

/-- 'rivuletlaw10.WalAgain': WHATEVER THE INPUT: true; the input reads as it did. -/
def walAgainSpec : ChangeSpec := { name := "walAgain", fn := fun _ => fun
  | [d1, d2] => { results := [.lit (.bool true)], args := [d1, d2] }
  | _ => none }
def walAgainRow : OpenClaim := { program := "ytenhncohhikllaadoor", sum := "4a185e4b0b50db9b1fff3422786e5e0aa5714929eac1337017e27be1beb38c85", func := "rivulet/rivuletlaw10.WalAgain", spec := "walAgain", inPlace := ["internal/abi.NoEscape"], unfollowed := true, recurses := true, named := ["rivulet/varint.widths"], apart := false, laid := [("rivulet/varint.widths", laid_rivulet_varint_widths)] }
def WalAgainSaid : Prop := walAgainRow.holds Tryd.pinned (OpenSpec.ofChange walAgainSpec)

/-- ITS FALSE NEIGHBOUR: 'it returns false'. Refute it at one input. -/
def walAgainWrong : ChangeSpec := { name := "walAgain", fn := fun _ => fun
  | [d1, d2] => { results := [.lit (.bool false)], args := [d1, d2] }
  | _ => none }
def WalAgainWrongFalsely : Prop := walAgainRow.holds Tryd.pinned (OpenSpec.ofChange walAgainWrong)

/-- 'rivuletlaw10.WalCuts': WHATEVER THE INPUT: true; the input reads as it did. -/
def walCutsSpec : ChangeSpec := { name := "walCuts", fn := fun _ => fun
  | [d1, d2] => { results := [.lit (.bool true)], args := [d1, d2] }
  | _ => none }
def walCutsRow : OpenClaim := { program := "ytenhncohhikllaadoor", sum := "4a185e4b0b50db9b1fff3422786e5e0aa5714929eac1337017e27be1beb38c85", func := "rivulet/rivuletlaw10.WalCuts", spec := "walCuts", inPlace := ["internal/abi.NoEscape"], unfollowed := true, recurses := true, named := ["rivulet/varint.widths"], apart := false, laid := [("rivulet/varint.widths", laid_rivulet_varint_widths)] }
def WalCutsSaid : Prop := walCutsRow.holds Tryd.pinned (OpenSpec.ofChange walCutsSpec)

/-- ITS FALSE NEIGHBOUR: 'it returns false'. Refute it at one input. -/
def walCutsWrong : ChangeSpec := { name := "walCuts", fn := fun _ => fun
  | [d1, d2] => { results := [.lit (.bool false)], args := [d1, d2] }
  | _ => none }
def WalCutsWrongFalsely : Prop := walCutsRow.holds Tryd.pinned (OpenSpec.ofChange walCutsWrong)

/-- 'rivuletlaw10.WalChecks': WHATEVER THE INPUT: true; the input reads as it did. -/
def walChecksSpec : ChangeSpec := { name := "walChecks", fn := fun _ => fun
  | [d1, d2] => { results := [.lit (.bool true)], args := [d1, d2] }
  | _ => none }
def walChecksRow : OpenClaim := { program := "ytenhncohhikllaadoor", sum := "4a185e4b0b50db9b1fff3422786e5e0aa5714929eac1337017e27be1beb38c85", func := "rivulet/rivuletlaw10.WalChecks", spec := "walChecks", inPlace := ["internal/abi.NoEscape"], unfollowed := true, recurses := true, named := ["rivulet/varint.widths"], apart := false, laid := [("rivulet/varint.widths", laid_rivulet_varint_widths)] }
def WalChecksSaid : Prop := walChecksRow.holds Tryd.pinned (OpenSpec.ofChange walChecksSpec)

/-- ITS FALSE NEIGHBOUR: 'it returns false'. Refute it at one input. -/
def walChecksWrong : ChangeSpec := { name := "walChecks", fn := fun _ => fun
  | [d1, d2] => { results := [.lit (.bool false)], args := [d1, d2] }
  | _ => none }
def WalChecksWrongFalsely : Prop := walChecksRow.holds Tryd.pinned (OpenSpec.ofChange walChecksWrong)

/- THE SECOND FORM. 'bulk': how many values and letters a reading holds, each counted each time it is reached (what is shared counts as often as it is met; a slice's spare places count too). A statement '..UptoSaid' is the law's where the arguments, and the package variables that the reading takes, are together of bulk at most 1048576: NARROWER than '..Said'. Prove '..Said' where nothing that the law and all that it calls make is longer than what came in: it says more and counts as full. Else prove '..UptoSaid'. A law counts once. -/
mutual
def uptoBulk {H : Type} : DataW H → Nat
  | .lit (.string bytes) => bytes.length + 1
  | .lit _ => 1
  | .nil => 1
  | .ptr d => uptoBulk d + 1
  | .slice elems spare => uptoBulkAll elems + uptoBulkAll spare + 1
  | .agg parts => uptoBulkAll parts + 1
  | .iface _ d => uptoBulk d + 1
  | .map entries => uptoBulkEntries entries + 1
  | .held _ => 1
def uptoBulkAll {H : Type} : List (DataW H) → Nat
  | [] => 0
  | d :: r => uptoBulk d + uptoBulkAll r
def uptoBulkEntries {H : Type} : List (Lit × DataW H) → Nat
  | [] => 0
  | x :: r => uptoBulkEntry x + uptoBulkEntries r
def uptoBulkEntry {H : Type} : Lit × DataW H → Nat
  | (.string bytes, d) => bytes.length + uptoBulk d + 1
  | (_, d) => uptoBulk d + 1
 end
def uptoSmall : (H : Type) → List (DataW H) → Bool := fun _ ds => decide (uptoBulkAll ds ≤ 1048576)
def OpenSpec.upto (s : _root_.Go.ChangeSpec) : _root_.Go.OpenSpec := { _root_.Go.OpenSpec.ofChange s with cond := some uptoSmall }

/-- 'rivuletlaw10.WalDoes', WHERE WHAT IT READS IS OF BULK AT MOST 1048576: true; the input reads as it did. -/
def walDoesUptoRow : OpenClaim := { program := "ytenhncohhikllaadoor", sum := "4a185e4b0b50db9b1fff3422786e5e0aa5714929eac1337017e27be1beb38c85", func := "rivulet/rivuletlaw10.WalDoes", spec := "walDoes", inPlace := ["internal/abi.NoEscape"], unfollowed := true, recurses := true, named := ["rivulet/varint.widths"], apart := false, laid := [("rivulet/varint.widths", laid_rivulet_varint_widths)], narrowed := true }
def WalDoesUptoSaid : Prop := walDoesUptoRow.holds Tryd.pinned (OpenSpec.upto walDoesSpec)

/-- 'rivuletlaw10.WalOpens', WHERE WHAT IT READS IS OF BULK AT MOST 1048576: true; the input reads as it did. -/
def walOpensUptoRow : OpenClaim := { program := "ytenhncohhikllaadoor", sum := "4a185e4b0b50db9b1fff3422786e5e0aa5714929eac1337017e27be1beb38c85", func := "rivulet/rivuletlaw10.WalOpens", spec := "walOpens", inPlace := ["internal/abi.NoEscape"], unfollowed := true, recurses := true, named := ["rivulet/varint.widths"], apart := false, laid := [("rivulet/varint.widths", laid_rivulet_varint_widths)], narrowed := true }
def WalOpensUptoSaid : Prop := walOpensUptoRow.holds Tryd.pinned (OpenSpec.upto walOpensSpec)

/-- 'rivuletlaw10.WalRecovers', WHERE WHAT IT READS IS OF BULK AT MOST 1048576: true; the input reads as it did. -/
def walRecoversUptoRow : OpenClaim := { program := "ytenhncohhikllaadoor", sum := "4a185e4b0b50db9b1fff3422786e5e0aa5714929eac1337017e27be1beb38c85", func := "rivulet/rivuletlaw10.WalRecovers", spec := "walRecovers", inPlace := ["internal/abi.NoEscape"], unfollowed := true, recurses := true, named := ["rivulet/varint.widths"], apart := false, laid := [("rivulet/varint.widths", laid_rivulet_varint_widths)], narrowed := true }
def WalRecoversUptoSaid : Prop := walRecoversUptoRow.holds Tryd.pinned (OpenSpec.upto walRecoversSpec)

/-- 'rivuletlaw10.WalAgain', WHERE WHAT IT READS IS OF BULK AT MOST 1048576: true; the input reads as it did. -/
def walAgainUptoRow : OpenClaim := { program := "ytenhncohhikllaadoor", sum := "4a185e4b0b50db9b1fff3422786e5e0aa5714929eac1337017e27be1beb38c85", func := "rivulet/rivuletlaw10.WalAgain", spec := "walAgain", inPlace := ["internal/abi.NoEscape"], unfollowed := true, recurses := true, named := ["rivulet/varint.widths"], apart := false, laid := [("rivulet/varint.widths", laid_rivulet_varint_widths)], narrowed := true }
def WalAgainUptoSaid : Prop := walAgainUptoRow.holds Tryd.pinned (OpenSpec.upto walAgainSpec)

/-- 'rivuletlaw10.WalCuts', WHERE WHAT IT READS IS OF BULK AT MOST 1048576: true; the input reads as it did. -/
def walCutsUptoRow : OpenClaim := { program := "ytenhncohhikllaadoor", sum := "4a185e4b0b50db9b1fff3422786e5e0aa5714929eac1337017e27be1beb38c85", func := "rivulet/rivuletlaw10.WalCuts", spec := "walCuts", inPlace := ["internal/abi.NoEscape"], unfollowed := true, recurses := true, named := ["rivulet/varint.widths"], apart := false, laid := [("rivulet/varint.widths", laid_rivulet_varint_widths)], narrowed := true }
def WalCutsUptoSaid : Prop := walCutsUptoRow.holds Tryd.pinned (OpenSpec.upto walCutsSpec)

/-- 'rivuletlaw10.WalChecks', WHERE WHAT IT READS IS OF BULK AT MOST 1048576: true; the input reads as it did. -/
def walChecksUptoRow : OpenClaim := { program := "ytenhncohhikllaadoor", sum := "4a185e4b0b50db9b1fff3422786e5e0aa5714929eac1337017e27be1beb38c85", func := "rivulet/rivuletlaw10.WalChecks", spec := "walChecks", inPlace := ["internal/abi.NoEscape"], unfollowed := true, recurses := true, named := ["rivulet/varint.widths"], apart := false, laid := [("rivulet/varint.widths", laid_rivulet_varint_widths)], narrowed := true }
def WalChecksUptoSaid : Prop := walChecksUptoRow.holds Tryd.pinned (OpenSpec.upto walChecksSpec)

end Rows
end Go.Proofs.YtenhncohhikllaaDoor
