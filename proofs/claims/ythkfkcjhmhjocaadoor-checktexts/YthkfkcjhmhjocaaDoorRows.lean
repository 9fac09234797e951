/-
  NARROWER THAN 'FOR EVERY INPUT', by the rows' own cells (each row's printed sentence says how): CheckSums: laid · CheckOpens: laid · CheckBack: laid · CheckJoins: laid · CheckBits: laid · CheckTorn: laid · CheckRows: laid · CheckTexts: laid.
  DERIVED. THE GIVEN ROWS OF THIS SEAT. 8 by the template 'for every input the law returns true; each argument reads behind the call as it read before'; 0 by the template 'total and deterministic' (their statements: YthkfkcjhmhjocaaDoorTotals.lean).
  GIVEN WITH THE SEED: the statements are not yours to turn. If you find one false, say at which input.
  Laid BY PROGRAM, IN A SANDBOX (cutbox-rows.mjs): the forced cells as the released guide's own fill.sh prints them over the translation d22f8a142822549d… (all of the seat's roots in one cut). By AI agents, Wed Nov 11 2026. No macro, syntax, notation, axiom, sorry.
-/
import Derived.Test.YthkfkcjhmhjocaaDoorChecked
import GoSem.Claim
import GoSem.ClaimJoined
import GoSem.ClaimMapViews
import Derived.JoinedTies
import Derived.KernelRfl
namespace Go.Proofs.YthkfkcjhmhjocaaDoor
/- THE CELL 'sum', in the pinned program and in every row, IS THE sha256 OF THE DUMP (.gsa) THAT YthkfkcjhmhjocaaDoorProg.lean LOADS. Nothing in Lean hashes anything: it is a label: what it is worth is what the hold of that sum in a sandbox is worth. -/
noncomputable def Tryd.pinned : Pinned := { name := "ythkfkcjhmhjocaadoor", sum := "d22f8a142822549d71181757b530fdbcd988cda9c015940c9c08f73efd9b6db8", checked := Tryd.checked }
namespace Rows
def none {H : Type} : Left H := { results := [], args := [] }

/- WHAT THE LISTED PACKAGE-LEVEL VARIABLES READ AS WHEN THE CALL BEGINS. Each datum BY PROGRAM (the guide's laid-datum.mjs) off the statement by which the dump's own 'gosem.cut.vars' lays the variable. In a bare row this is a premise. The card (YthkfkcjhmhjocaaDoorCards.lean) ties it to the program's text. -/
def laid_rivulet_varint_widths {H : Type} : DataW H := .agg [.agg [.lit (.int .u8 0), .lit (.int .u64 0), .lit (.int .u64 240)], .agg [.lit (.int .u8 241), .lit (.int .u64 240), .lit (.int .u64 2287)], .agg [.lit (.int .u8 249), .lit (.int .u64 2288), .lit (.int .u64 67823)], .agg [.lit (.int .u8 250), .lit (.int .u64 0), .lit (.int .u64 16777215)], .agg [.lit (.int .u8 251), .lit (.int .u64 0), .lit (.int .u64 4294967295)], .agg [.lit (.int .u8 252), .lit (.int .u64 0), .lit (.int .u64 1099511627775)], .agg [.lit (.int .u8 253), .lit (.int .u64 0), .lit (.int .u64 281474976710655)], .agg [.lit (.int .u8 254), .lit (.int .u64 0), .lit (.int .u64 72057594037927935)], .agg [.lit (.int .u8 255), .lit (.int .u64 0), .lit (.int .u64 18446744073709551615)]]

/-- 'rivuletlaw02.CheckSums': WHATEVER THE INPUT: true; the input reads as it did. -/
def checkSumsSpec : ChangeSpec := { name := "checkSums", fn := fun _ => fun
  | [d1, d2] => { results := [.lit (.bool true)], args := [d1, d2] }
  | _ => none }
def checkSumsRow : OpenClaim := { program := "ythkfkcjhmhjocaadoor", sum := "d22f8a142822549d71181757b530fdbcd988cda9c015940c9c08f73efd9b6db8", func := "rivulet/rivuletlaw02.CheckSums", spec := "checkSums", unfollowed := true, recurses := true, named := ["rivulet/varint.widths"], apart := false, laid := [("rivulet/varint.widths", laid_rivulet_varint_widths)] }
def CheckSumsSaid : Prop := checkSumsRow.holds Tryd.pinned (OpenSpec.ofChange checkSumsSpec)

/-- ITS FALSE NEIGHBOUR: 'it returns false'. Refute it at one input. -/
def checkSumsWrong : ChangeSpec := { name := "checkSums", fn := fun _ => fun
  | [d1, d2] => { results := [.lit (.bool false)], args := [d1, d2] }
  | _ => none }
def CheckSumsWrongFalsely : Prop := checkSumsRow.holds Tryd.pinned (OpenSpec.ofChange checkSumsWrong)

/-- 'rivuletlaw02.CheckOpens': WHATEVER THE INPUT: true; the input reads as it did. -/
def checkOpensSpec : ChangeSpec := { name := "checkOpens", fn := fun _ => fun
  | [d1, d2] => { results := [.lit (.bool true)], args := [d1, d2] }
  | _ => none }
def checkOpensRow : OpenClaim := { program := "ythkfkcjhmhjocaadoor", sum := "d22f8a142822549d71181757b530fdbcd988cda9c015940c9c08f73efd9b6db8", func := "rivulet/rivuletlaw02.CheckOpens", spec := "checkOpens", unfollowed := true, recurses := true, named := ["rivulet/varint.widths"], apart := false, laid := [("rivulet/varint.widths", laid_rivulet_varint_widths)] }
def CheckOpensSaid : Prop := checkOpensRow.holds Tryd.pinned (OpenSpec.ofChange checkOpensSpec)

/-- ITS FALSE NEIGHBOUR: 'it returns false'. Refute it at one input. -/
def checkOpensWrong : ChangeSpec := { name := "checkOpens", fn := fun _ => fun
  | [d1, d2] => { results := [.lit (.bool false)], args := [d1, d2] }
  | _ => none }
def CheckOpensWrongFalsely : Prop := checkOpensRow.holds Tryd.pinned (OpenSpec.ofChange checkOpensWrong)

/-- 'rivuletlaw02.CheckBack': WHATEVER THE INPUT: true; the input reads as it did. -/
def checkBackSpec : ChangeSpec := { name := "checkBack", fn := fun _ => fun
  | [d1, d2, d3] => { results := [.lit (.bool true)], args := [d1, d2, d3] }
  | _ => none }
def checkBackRow : OpenClaim := { program := "ythkfkcjhmhjocaadoor", sum := "d22f8a142822549d71181757b530fdbcd988cda9c015940c9c08f73efd9b6db8", func := "rivulet/rivuletlaw02.CheckBack", spec := "checkBack", unfollowed := true, recurses := true, named := ["rivulet/varint.widths"], apart := false, laid := [("rivulet/varint.widths", laid_rivulet_varint_widths)] }
def CheckBackSaid : Prop := checkBackRow.holds Tryd.pinned (OpenSpec.ofChange checkBackSpec)

/-- ITS FALSE NEIGHBOUR: 'it returns false'. Refute it at one input. -/
def checkBackWrong : ChangeSpec := { name := "checkBack", fn := fun _ => fun
  | [d1, d2, d3] => { results := [.lit (.bool false)], args := [d1, d2, d3] }
  | _ => none }
def CheckBackWrongFalsely : Prop := checkBackRow.holds Tryd.pinned (OpenSpec.ofChange checkBackWrong)

/-- 'rivuletlaw02.CheckJoins': WHATEVER THE INPUT: true; the input reads as it did. -/
def checkJoinsSpec : ChangeSpec := { name := "checkJoins", fn := fun _ => fun
  | [d1, d2] => { results := [.lit (.bool true)], args := [d1, d2] }
  | _ => none }
def checkJoinsRow : OpenClaim := { program := "ythkfkcjhmhjocaadoor", sum := "d22f8a142822549d71181757b530fdbcd988cda9c015940c9c08f73efd9b6db8", func := "rivulet/rivuletlaw02.CheckJoins", spec := "checkJoins", unfollowed := true, recurses := true, named := ["rivulet/varint.widths"], apart := false, laid := [("rivulet/varint.widths", laid_rivulet_varint_widths)] }
def CheckJoinsSaid : Prop := checkJoinsRow.holds Tryd.pinned (OpenSpec.ofChange checkJoinsSpec)

/-- ITS FALSE NEIGHBOUR: 'it returns false'. Refute it at one input. -/
def checkJoinsWrong : ChangeSpec := { name := "checkJoins", fn := fun _ => fun
  | [d1, d2] => { results := [.lit (.bool false)], args := [d1, d2] }
  | _ => none }
def CheckJoinsWrongFalsely : Prop := checkJoinsRow.holds Tryd.pinned (OpenSpec.ofChange checkJoinsWrong)

/-- 'rivuletlaw02.CheckBits': WHATEVER THE INPUT: true; the input reads as it did. -/
def checkBitsSpec : ChangeSpec := { name := "checkBits", fn := fun _ => fun
  | [d1, d2, d3] => { results := [.lit (.bool true)], args := [d1, d2, d3] }
  | _ => none }
def checkBitsRow : OpenClaim := { program := "ythkfkcjhmhjocaadoor", sum := "d22f8a142822549d71181757b530fdbcd988cda9c015940c9c08f73efd9b6db8", func := "rivulet/rivuletlaw02.CheckBits", spec := "checkBits", unfollowed := true, recurses := true, named := ["rivulet/varint.widths"], apart := false, laid := [("rivulet/varint.widths", laid_rivulet_varint_widths)] }
def CheckBitsSaid : Prop := checkBitsRow.holds Tryd.pinned (OpenSpec.ofChange checkBitsSpec)

/-- ITS FALSE NEIGHBOUR: 'it returns false'. Refute it at one input. -/
def checkBitsWrong : ChangeSpec := { name := "checkBits", fn := fun _ => fun
  | [d1, d2, d3] => { results := [.lit (.bool false)], args := [d1, d2, d3] }
  | _ => none }
def CheckBitsWrongFalsely : Prop := checkBitsRow.holds Tryd.pinned (OpenSpec.ofChange checkBitsWrong)

/-- 'rivuletlaw02.CheckTorn': WHATEVER THE INPUT: true; the input reads as it did. -/
def checkTornSpec : ChangeSpec := { name := "checkTorn", fn := fun _ => fun
  | [d1, d2] => { results := [.lit (.bool true)], args := [d1, d2] }
  | _ => none }
def checkTornRow : OpenClaim := { program := "ythkfkcjhmhjocaadoor", sum := "d22f8a142822549d71181757b530fdbcd988cda9c015940c9c08f73efd9b6db8", func := "rivulet/rivuletlaw02.CheckTorn", spec := "checkTorn", unfollowed := true, recurses := true, named := ["rivulet/varint.widths"], apart := false, laid := [("rivulet/varint.widths", laid_rivulet_varint_widths)] }
def CheckTornSaid : Prop := checkTornRow.holds Tryd.pinned (OpenSpec.ofChange checkTornSpec)

/-- ITS FALSE NEIGHBOUR: 'it returns false'. Refute it at one input. -/
def checkTornWrong : ChangeSpec := { name := "checkTorn", fn := fun _ => fun
  | [d1, d2] => { results := [.lit (.bool false)], args := [d1, d2] }
  | _ => none }
def CheckTornWrongFalsely : Prop := checkTornRow.holds Tryd.pinned (OpenSpec.ofChange checkTornWrong)

/-- 'rivuletlaw02.CheckRows': WHATEVER THE INPUT: true; the input reads as it did. -/
def checkRowsSpec : ChangeSpec := { name := "checkRows", fn := fun _ => fun
  | [d] => { results := [.lit (.bool true)], args := [d] }
  | _ => none }
def checkRowsRow : OpenClaim := { program := "ythkfkcjhmhjocaadoor", sum := "d22f8a142822549d71181757b530fdbcd988cda9c015940c9c08f73efd9b6db8", func := "rivulet/rivuletlaw02.CheckRows", spec := "checkRows", unfollowed := true, recurses := true, named := ["rivulet/varint.widths"], apart := false, laid := [("rivulet/varint.widths", laid_rivulet_varint_widths)] }
def CheckRowsSaid : Prop := checkRowsRow.holds Tryd.pinned (OpenSpec.ofChange checkRowsSpec)

/-- ITS FALSE NEIGHBOUR: 'it returns false'. Refute it at one input. -/
def checkRowsWrong : ChangeSpec := { name := "checkRows", fn := fun _ => fun
  | [d] => { results := [.lit (.bool false)], args := [d] }
  | _ => none }
def CheckRowsWrongFalsely : Prop := checkRowsRow.holds Tryd.pinned (OpenSpec.ofChange checkRowsWrong)

/-- 'rivuletlaw02.CheckTexts': WHATEVER THE INPUT: true; the input reads as it did. -/
def checkTextsSpec : ChangeSpec := { name := "checkTexts", fn := fun _ => fun
  | [d1, d2] => { results := [.lit (.bool true)], args := [d1, d2] }
  | _ => none }
def checkTextsRow : OpenClaim := { program := "ythkfkcjhmhjocaadoor", sum := "d22f8a142822549d71181757b530fdbcd988cda9c015940c9c08f73efd9b6db8", func := "rivulet/rivuletlaw02.CheckTexts", spec := "checkTexts", unfollowed := true, recurses := true, named := ["rivulet/varint.widths"], apart := false, laid := [("rivulet/varint.widths", laid_rivulet_varint_widths)] }
def CheckTextsSaid : Prop := checkTextsRow.holds Tryd.pinned (OpenSpec.ofChange checkTextsSpec)

/-- ITS FALSE NEIGHBOUR: 'it returns false'. Refute it at one input. -/
def checkTextsWrong : ChangeSpec := { name := "checkTexts", fn := fun _ => fun
  | [d1, d2] => { results := [.lit (.bool false)], args := [d1, d2] }
  | _ => none }
def CheckTextsWrongFalsely : Prop := checkTextsRow.holds Tryd.pinned (OpenSpec.ofChange checkTextsWrong)

/- THE SECOND FORM. 'bulk': how many values and letters a reading holds, each counted each time it is reached (what is shared counts as often as it is met; a slice's spare places count too). A statement '..UptoSaid' is the law's where the arguments, and the package variables that the reading takes, are together of bulk at most 1048576: NARROWER than '..Said'. Prove '..Said' where nothing that the law and all that it calls make is longer than what came in: it says more and counts as full. Else prove '..UptoSaid'. A law counts once. -/
mutual
def uptoBulk {H : Type} : DataW H → Nat
  | .lit (.string bytes) => bytes.length + 1
  | .lit _ => 1
  | .nil => 1
  | .ptr d => uptoBulk d + 1
  | .slice elems spare => uptoBulkAll elems + uptoBulkAll spare + 1
  | .agg parts => uptoBulkAll parts + 1
  | .iface _ d => uptoBulk d + 1
  | .map entries => uptoBulkEntries entries + 1
  | .held _ => 1
def uptoBulkAll {H : Type} : List (DataW H) → Nat
  | [] => 0
  | d :: r => uptoBulk d + uptoBulkAll r
def uptoBulkEntries {H : Type} : List (Lit × DataW H) → Nat
  | [] => 0
  | x :: r => uptoBulkEntry x + uptoBulkEntries r
def uptoBulkEntry {H : Type} : Lit × DataW H → Nat
  | (.string bytes, d) => bytes.length + uptoBulk d + 1
  | (_, d) => uptoBulk d + 1
 end
def uptoSmall : (H : Type) → List (DataW H) → Bool := fun _ ds => decide (uptoBulkAll ds ≤ 1048576)
def OpenSpec.upto (s : _root_.Go.ChangeSpec) : _root_.Go.OpenSpec := { _root_.Go.OpenSpec.ofChange s with cond := some uptoSmall }

/-- 'rivuletlaw02.CheckSums', WHERE WHAT IT READS IS OF BULK AT MOST 1048576: true; the input reads as it did. -/
def checkSumsUptoRow : OpenClaim := { program := "ythkfkcjhmhjocaadoor", sum := "d22f8a142822549d71181757b530fdbcd988cda9c015940c9c08f73efd9b6db8", func := "rivulet/rivuletlaw02.CheckSums", spec := "checkSums", unfollowed := true, recurses := true, named := ["rivulet/varint.widths"], apart := false, laid := [("rivulet/varint.widths", laid_rivulet_varint_widths)], narrowed := true }
def CheckSumsUptoSaid : Prop := checkSumsUptoRow.holds Tryd.pinned (OpenSpec.upto checkSumsSpec)

/-- 'rivuletlaw02.CheckOpens', WHERE WHAT IT READS IS OF BULK AT MOST 1048576: true; the input reads as it did. -/
def checkOpensUptoRow : OpenClaim := { program := "ythkfkcjhmhjocaadoor", sum := "d22f8a142822549d71181757b530fdbcd988cda9c015940c9c08f73efd9b6db8", func := "rivulet/rivuletlaw02.CheckOpens", spec := "checkOpens", unfollowed := true, recurses := true, named := ["rivulet/varint.widths"], apart := false, laid := [("rivulet/varint.widths", laid_rivulet_varint_widths)], narrowed := true }
def CheckOpensUptoSaid : Prop := checkOpensUptoRow.holds Tryd.pinned (OpenSpec.upto checkOpensSpec)

/-- 'rivuletlaw02.CheckBack', WHERE WHAT IT READS IS OF BULK AT MOST 1048576: true; the input reads as it did. -/
def checkBackUptoRow : OpenClaim := { program := "ythkfkcjhmhjocaadoor", sum := "d22f8a142822549d71181757b530fdbcd988cda9c015940c9c08f73efd9b6db8", func := "rivulet/rivuletlaw02.CheckBack", spec := "checkBack", unfollowed := true, recurses := true, named := ["rivulet/varint.widths"], apart := false, laid := [("rivulet/varint.widths", laid_rivulet_varint_widths)], narrowed := true }
def CheckBackUptoSaid : Prop := checkBackUptoRow.holds Tryd.pinned (OpenSpec.upto checkBackSpec)

/-- 'rivuletlaw02.CheckJoins', WHERE WHAT IT READS IS OF BULK AT MOST 1048576: true; the input reads as it did. -/
def checkJoinsUptoRow : OpenClaim := { program := "ythkfkcjhmhjocaadoor", sum := "d22f8a142822549d71181757b530fdbcd988cda9c015940c9c08f73efd9b6db8", func := "rivulet/rivuletlaw02.CheckJoins", spec := "checkJoins", unfollowed := true, recurses := true, named := ["rivulet/varint.widths"], apart := false, laid := [("rivulet/varint.widths", laid_rivulet_varint_widths)], narrowed := true }
def CheckJoinsUptoSaid : Prop := checkJoinsUptoRow.holds Tryd.pinned (OpenSpec.upto checkJoinsSpec)

/-- 'rivuletlaw02.CheckBits', WHERE WHAT IT READS IS OF BULK AT MOST 1048576: true; the input reads as it did. -/
def checkBitsUptoRow : OpenClaim := { program := "ythkfkcjhmhjocaadoor", sum := "d22f8a142822549d71181757b530fdbcd988cda9c015940c9c08f73efd9b6db8", func := "rivulet/rivuletlaw02.CheckBits", spec := "checkBits", unfollowed := true, recurses := true, named := ["rivulet/varint.widths"], apart := false, laid := [("rivulet/varint.widths", laid_rivulet_varint_widths)], narrowed := true }
def CheckBitsUptoSaid : Prop := checkBitsUptoRow.holds Tryd.pinned (OpenSpec.upto checkBitsSpec)

/-- 'rivuletlaw02.CheckTorn', WHERE WHAT IT READS IS OF BULK AT MOST 1048576: true; the input reads as it did. -/
def checkTornUptoRow : OpenClaim := { program := "ythkfkcjhmhjocaadoor", sum := "d22f8a142822549d71181757b530fdbcd988cda9c015940c9c08f73efd9b6db8", func := "rivulet/rivuletlaw02.CheckTorn", spec := "checkTorn", unfollowed := true, recurses := true, named := ["rivulet/varint.widths"], apart := false, laid := [("rivulet/varint.widths", laid_rivulet_varint_widths)], narrowed := true }
def CheckTornUptoSaid : Prop := checkTornUptoRow.holds Tryd.pinned (OpenSpec.upto checkTornSpec)

/-- 'rivuletlaw02.CheckRows', WHERE WHAT IT READS IS OF BULK AT MOST 1048576: true; the input reads as it did. -/
def checkRowsUptoRow : OpenClaim := { program := "ythkfkcjhmhjocaadoor", sum := "d22f8a142822549d71181757b530fdbcd988cda9c015940c9c08f73efd9b6db8", func := "rivulet/rivuletlaw02.CheckRows", spec := "checkRows", unfollowed := true, recurses := true, named := ["rivulet/varint.widths"], apart := false, laid := [("rivulet/varint.widths", laid_rivulet_varint_widths)], narrowed := true }
def CheckRowsUptoSaid : Prop := checkRowsUptoRow.holds Tryd.pinned (OpenSpec.upto checkRowsSpec)

/-- 'rivuletlaw02.CheckTexts', WHERE WHAT IT READS IS OF BULK AT MOST 1048576: true; the input reads as it did. -/
def checkTextsUptoRow : OpenClaim := { program := "ythkfkcjhmhjocaadoor", sum := "d22f8a142822549d71181757b530fdbcd988cda9c015940c9c08f73efd9b6db8", func := "rivulet/rivuletlaw02.CheckTexts", spec := "checkTexts", unfollowed := true, recurses := true, named := ["rivulet/varint.widths"], apart := false, laid := [("rivulet/varint.widths", laid_rivulet_varint_widths)], narrowed := true }
def CheckTextsUptoSaid : Prop := checkTextsUptoRow.holds Tryd.pinned (OpenSpec.upto checkTextsSpec)

end Rows
end Go.Proofs.YthkfkcjhmhjocaaDoor
